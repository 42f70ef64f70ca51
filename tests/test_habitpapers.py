"""Point 109."""

import unittest

from firsthand.claims import Claim
from firsthand.habitpapers import are_habit_refutations, habit_refutations
from firsthand.habits import greatest_failures, least_choices
from firsthand.hands import Hand
from firsthand.scribes import rehanded
from firsthand.setmaking import exactly
from firsthand.walks import reachable, refutation
from tests.brute import lists_of, only_tuples
from tests.test_habits import FAMILY, OMIT, TWICE

# "aaa" must be made of "ab": both faults are needed, and the third one is needless.
NEEDY = FAMILY.found("x", exactly("ab", ["ab"])).lost("y").found("y", exactly("ab", ["aaa"]))
FAULTS = [TWICE, ("mistake", "b", "a", 1), OMIT]
GOOD = least_choices(NEEDY, ["y"], FAULTS)
PAIRS = habit_refutations(NEEDY, ["y"], FAULTS)


def judged(good, pairs, faults=FAULTS, **more):
    return are_habit_refutations(NEEDY, ["y"], faults, good, pairs, **more)


class RefutationsTest(unittest.TestCase):
    def test_pairs(self):
        self.assertEqual(GOOD, ((0, 1),))
        self.assertEqual([choice for choice, _ in PAIRS], [(0, 2), (1, 2)])
        for choice, table in PAIRS:
            small = rehanded(NEEDY, ["y"], Hand.of_faults("ab", [FAULTS[index] for index in choice]))
            self.assertEqual(table, refutation(small))
        self.assertTrue(only_tuples(PAIRS))
        self.assertEqual(habit_refutations(NEEDY.lost("y"), ["y"], FAULTS), ())

    def test_limit_and_supposed(self):
        pairs = habit_refutations(NEEDY, ["y"], lists_of(FAULTS), limit=1)
        self.assertEqual([choice for choice, _ in pairs], [(0, 1, 2)])
        self.assertIs(judged((), pairs, limit=1), True)
        claim = ~Claim.slips("y", 2)
        pairs = habit_refutations(NEEDY, ["y"], FAULTS, supposed=claim)
        self.assertEqual([choice for choice, _ in pairs], [(0, 1, 2)])
        small = rehanded(NEEDY, ["y"], Hand.of_faults("ab", FAULTS))
        self.assertEqual(pairs[0][1], refutation(small, supposed=claim))
        self.assertIs(judged((), pairs, supposed=claim), True)
        self.assertIs(judged((), pairs, supposed=Claim.slips("y", 2)), False)


class AreRefutationsTest(unittest.TestCase):
    def test_what_is_told(self):
        self.assertIs(judged(GOOD, PAIRS), True)
        self.assertIs(judged(lists_of(GOOD), lists_of(PAIRS), faults=lists_of(FAULTS)), True)
        self.assertIs(judged(GOOD, PAIRS[::-1]), True)

    def test_a_choice_in_several_pairs(self):
        self.assertIs(judged(GOOD, PAIRS + PAIRS), True)
        choice, table = PAIRS[0]
        self.assertIs(judged(GOOD, PAIRS + ((choice, table[1:]),)), False)
        self.assertIs(judged(GOOD, ((choice, table[1:]),) + PAIRS), False)

    def test_a_table_that_does_not_refute(self):
        choice, table = PAIRS[1]
        for wrong in ((), table[:-1], table[1:]):
            self.assertIs(judged(GOOD, (PAIRS[0], (choice, wrong))), False)
        explained = rehanded(NEEDY, ["y"], Hand.of_faults("ab", FAULTS[:2]))
        self.assertIs(judged(GOOD, PAIRS + (((0, 1), reachable(explained)),)), False)
        # The table of one choice does not refute the other one.
        self.assertIs(judged(GOOD, ((PAIRS[0][0], PAIRS[1][1]), PAIRS[1])), False)

    def test_a_choice_that_is_not_covered(self):
        self.assertIs(judged(GOOD, PAIRS[:1]), False)
        self.assertIs(judged(GOOD, ()), False)
        self.assertIs(judged((), PAIRS), False)
        self.assertIs(judged(((0, 1, 2),), PAIRS), False)
        # Smaller choices that do not explain do not cover the greater ones.
        small = tuple((choice, refutation(rehanded(NEEDY, ["y"], Hand.of_faults("ab", [FAULTS[index] for index in choice]))))
                      for choice in ((), (0,), (1,), (2,), (0, 2)))
        self.assertIs(judged(GOOD, small), False)
        self.assertIs(judged(GOOD, small + PAIRS[1:]), True)

    def test_good_choices_are_not_judged(self):
        self.assertIs(judged(((),), ()), True)
        self.assertIs(judged(((0,), (1,), (2,)), PAIRS), True)
        self.assertIs(judged(((0,), (1, 2)), PAIRS[1:]), True)
        self.assertIs(judged(((0,), (1,)), PAIRS[:1]), True)

    def test_no_faults(self):
        pairs = habit_refutations(NEEDY, ["y"], [])
        self.assertEqual([choice for choice, _ in pairs], [()])
        self.assertIs(judged((), pairs, faults=[]), True)
        self.assertIs(judged((), (), faults=[]), False)
        self.assertIs(judged(((),), (), faults=[]), True)

    def test_equal_faults(self):
        faults = [FAULTS[0], FAULTS[1], FAULTS[1]]
        pairs = habit_refutations(NEEDY, ["y"], faults)
        good = least_choices(NEEDY, ["y"], faults)
        self.assertEqual((good, greatest_failures(NEEDY, ["y"], faults)), (((0, 1), (0, 2)), ((0,), (1, 2))))
        self.assertIs(judged(good, pairs, faults=faults), True)
        self.assertIs(judged(good[:1], pairs, faults=faults), False)


if __name__ == "__main__":
    unittest.main()

"""Points 105 and 106."""

import itertools
import random
import unittest

from firsthand.claims import Claim
from firsthand.errors import AlphabetsDiffer, BadFault, NotCopied, UnknownCopy
from firsthand.families import Family
from firsthand.habitpapers import are_habit_refutations, habit_refutations
from firsthand.habits import greatest_failures, habits, least_choices
from firsthand.hands import Hand
from firsthand.scribes import explains, rehanded
from firsthand.setmaking import everything, exactly, nothing, torn
from firsthand.walks import least_history
from tests.brute import lists_of

FAITHFUL = Hand.faithful("ab")
BLANK = Hand("ab", [(0, sign, "", 3, 0) for sign in "ab"], [0])
FAMILY = Family("ab").copied("x", "first", FAITHFUL).joined("j", "x", "first", most=1).copied("y", "j", FAITHFUL)
FAMILY = FAMILY.found("x", exactly("ab", ["ab"])).found("y", exactly("ab", ["a", "aab"]))
OMIT, TWICE, TURN = ("omit", "b", 1), ("double", "a", 2), ("turn", "a", "b", 1)


class RehandedTest(unittest.TestCase):
    def test_copies(self):
        family = rehanded(FAMILY, ["y"], BLANK)
        expected = Family("ab").copied("x", "first", FAITHFUL).joined("j", "x", "first", most=1).copied("y", "j", BLANK)
        self.assertEqual(family, expected.found("x", exactly("ab", ["ab"])).found("y", exactly("ab", ["a", "aab"])))
        both = rehanded(FAMILY, ["y", "x", "y"], BLANK)
        self.assertEqual((both.making("x"), both.making("y")), (("copied", "first", BLANK), ("copied", "j", BLANK)))
        self.assertEqual((both.making("j"), both.names), (FAMILY.making("j"), FAMILY.names))
        self.assertEqual(FAMILY.making("y"), ("copied", "j", FAITHFUL))

    def test_no_names(self):
        self.assertEqual(rehanded(FAMILY, [], BLANK), FAMILY)
        with self.assertRaises(AlphabetsDiffer) as caught:
            rehanded(FAMILY, [], Hand.faithful("abc"))
        self.assertEqual((caught.exception.one, caught.exception.two), ("ab", "abc"))

    def test_order_of_errors(self):
        wide = Hand.faithful("abc")
        for names, name in ((["x", "j", "q", "r"], "q"), (["first"], "first"), (["j", "first", "q"], "first"), ([""], "")):
            with self.assertRaises(UnknownCopy) as caught:
                rehanded(FAMILY, names, wide)
            self.assertEqual(caught.exception.name, name)
        family = FAMILY.conflated("k", "x", "y")
        for names, name in ((["x", "k", "j"], "k"), (["j"], "j"), (["y", "j", "k"], "j")):
            with self.assertRaises(NotCopied) as caught:
                rehanded(family, names, wide)
            self.assertEqual(caught.exception.name, name)
        self.assertRaises(AlphabetsDiffer, lambda: rehanded(family, ["x", "y"], wide))

    def test_hands_keep_their_states(self):
        hand = Hand("ab", [(0, "a", "a", 0, 7), (7, "a", "a", 0, 0)], [0, 7])
        self.assertEqual(rehanded(FAMILY, ["x"], hand).making("x")[2].rules, hand.rules)


class ExplainsTest(unittest.TestCase):
    def test_choices(self):
        faults = [OMIT, TWICE, TURN]
        for choice, right in (((), False), ((0,), True), ((1,), True), ((2,), False), ((0, 1), True), ((1, 2), True)):
            self.assertIs(explains(FAMILY, ["y"], faults, choice), right)
            self.assertIs(explains(FAMILY, ["y"], lists_of(faults), list(choice)), right)

    def test_limit(self):
        family = Family("ab").copied("x", "first", FAITHFUL).copied("y", "first", FAITHFUL)
        family = family.found("first", exactly("ab", ["bab"])).found("x", exactly("ab", ["a"])).found("y", exactly("ab", ["ba"]))
        self.assertIs(explains(family, ["x", "y"], [OMIT], (0,)), True)
        # The limit bounds the slips of each copy by itself: there are three of them in all.
        for limit, right in ((0, False), (1, False), (2, True), (9, True)):
            self.assertIs(explains(family, ["x", "y"], [OMIT], (0,), limit=limit), right)
        self.assertIs(explains(family, ["y"], [OMIT], (0,), limit=1), False)
        self.assertIs(explains(family.lost("x"), ["y"], [OMIT], (0,), limit=1), True)

    def test_supposed(self):
        self.assertIs(explains(FAMILY, ["y"], [OMIT, TWICE], (0, 1), supposed=Claim.slips("y", 0)), False)
        self.assertIs(explains(FAMILY, ["y"], [OMIT, TWICE], (0,), supposed=~Claim.slips("y", 0)), True)
        self.assertIs(explains(FAMILY, ["y"], [OMIT], (0,), supposed=Claim.lies("y", exactly("ab", ["aab"]))), False)

    def test_no_names_and_no_faults(self):
        self.assertIs(explains(FAMILY, [], [OMIT], ()), least_history(FAMILY) is not None)
        self.assertIs(explains(FAMILY, ["y"], [], ()), False)
        self.assertIs(explains(FAMILY.lost("y"), ["y"], [], ()), True)
        self.assertIs(explains(FAMILY.found("first", nothing("ab")), ["y"], [OMIT], (0,)), False)

    def test_words_of_the_document(self):
        rand = random.Random(106)
        faults = [OMIT, TWICE, TURN, ("leap", "a", 2), ("mistake", "b", "a", 1)]
        seen = {True: 0, False: 0}
        for _ in range(30):
            texts = exactly("ab", ["".join(rand.choice("ab") for _ in range(3)) for _ in range(2)])
            family = FAMILY.lost("y").lost("x").found("y", texts).found("x", torn("ab", rand.choice(["a*", "?b?", "??"])))
            limit = rand.choice([None, 0, 1, 2])
            claim = rand.choice([None, Claim.slips("y", 1), ~Claim.slips("x", 0)])
            for size in range(4):
                for choice in itertools.combinations(range(5), size):
                    hand = Hand.of_faults("ab", [faults[index] for index in choice], limit=limit)
                    right = least_history(rehanded(family, ["x", "y"], hand), supposed=claim) is not None
                    self.assertIs(explains(family, ["x", "y"], faults, choice, limit=limit, supposed=claim), right)
                    seen[right] += 1
        self.assertGreater(min(seen.values()), 50, seen)


class ErrorsTest(unittest.TestCase):
    """The order of the errors of all functions of this part."""

    ASKS = [
        lambda family, names, faults, supposed: explains(family, names, faults, (), supposed=supposed),
        lambda family, names, faults, supposed: least_choices(family, names, faults, supposed=supposed),
        lambda family, names, faults, supposed: greatest_failures(family, names, faults, supposed=supposed),
        lambda family, names, faults, supposed: habits(family, names, faults, supposed=supposed),
        lambda family, names, faults, supposed: habit_refutations(family, names, faults, supposed=supposed),
        lambda family, names, faults, supposed: are_habit_refutations(family, names, faults, (), (), supposed=supposed),
    ]

    def test_order(self):
        strange, wide = Claim.slips("q", 1), Claim.lies("x", everything("abc"))
        bad = [OMIT, ("omit", "c", 1), (), ("turn", "a", "a", 1)]
        for family in (FAMILY, FAMILY.found("first", nothing("ab"))):
            for ask in self.ASKS:
                for names, name in ((["x", "j", "q", "r"], "q"), (["j", "first"], "first")):
                    with self.assertRaises(UnknownCopy) as caught:
                        ask(family, names, bad, strange)
                    self.assertEqual(caught.exception.name, name)
                with self.assertRaises(NotCopied) as caught:
                    ask(family, ["x", "j"], bad, strange)
                self.assertEqual(caught.exception.name, "j")
                for faults, index in ((bad, 1), (bad[2:], 0), ([list(OMIT), TWICE, ["omit"]], 2)):
                    with self.assertRaises(BadFault) as caught:
                        ask(family, ["x", "x"], faults, strange)
                    self.assertEqual(caught.exception.index, index)
                self.assertRaises(UnknownCopy, lambda: ask(family, ["x"], [OMIT], strange & wide))
                self.assertRaises(AlphabetsDiffer, lambda: ask(family, [], [], wide & strange))


if __name__ == "__main__":
    unittest.main()

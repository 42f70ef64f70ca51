"""Points 107 and 108."""

import itertools
import random
import unittest

from firsthand.claims import Claim
from firsthand.errors import NoChoice
from firsthand.families import Family
from firsthand.habits import greatest_failures, habits, least_choices
from firsthand.hands import Hand
from firsthand.scribes import explains
from firsthand.setmaking import exactly, nothing, torn
from tests.brute import only_tuples

FAITHFUL = Hand.faithful("ab")
OMIT, TWICE, TURN = ("omit", "b", 1), ("double", "a", 2), ("turn", "a", "b", 1)
# The text "aab" of y needs that the scribe writes twice what stands in x, or leaves out what stands there.
FAMILY = Family("ab").copied("x", "first", FAITHFUL).copied("y", "x", FAITHFUL).found("x", exactly("ab", ["ab", "abab"])).found("y", exactly("ab", ["aab"]))


def all_choices(count):
    return [choice for size in range(count + 1) for choice in itertools.combinations(range(count), size)]


class ChoicesTest(unittest.TestCase):
    def test_least_and_greatest(self):
        faults = [OMIT, TWICE, TURN]
        self.assertEqual(least_choices(FAMILY, ["y"], faults), ((0,), (1,)))
        self.assertEqual(greatest_failures(FAMILY, ["y"], faults), ((2,),))
        self.assertEqual(least_choices(FAMILY, ["y"], [("leap", "a", 1), OMIT]), ((1,),))
        self.assertEqual(greatest_failures(FAMILY, ["y"], [("leap", "a", 1), OMIT]), ((0,),))
        self.assertTrue(only_tuples(least_choices(FAMILY, ["y"], [list(OMIT)])))

    def test_none_explains(self):
        faults = [("leap", "a", 1), ("mistake", "b", "a", 1)]
        self.assertEqual(least_choices(FAMILY, ["y"], faults), ())
        self.assertEqual(greatest_failures(FAMILY, ["y"], faults), ((0, 1),))
        self.assertRaises(NoChoice, lambda: habits(FAMILY, ["y"], faults))

    def test_all_explain(self):
        family = FAMILY.lost("y")
        self.assertEqual(least_choices(family, ["y"], [OMIT, TWICE]), ((),))
        self.assertEqual(greatest_failures(family, ["y"], [OMIT, TWICE]), ())
        self.assertEqual(habits(family, ["y"], [OMIT, TWICE]), ("needless", "needless"))

    def test_no_faults(self):
        self.assertEqual((least_choices(FAMILY, ["y"], []), greatest_failures(FAMILY, ["y"], [])), ((), ((),)))
        self.assertRaises(NoChoice, lambda: habits(FAMILY, ["y"], []))
        family = FAMILY.lost("y")
        self.assertEqual((least_choices(family, ["y"], []), greatest_failures(family, ["y"], [])), (((),), ()))
        self.assertEqual(habits(family, ["y"], []), ())

    def test_equal_faults(self):
        """Each index counts by itself."""
        faults = [TWICE, ("leap", "a", 1), TWICE]
        self.assertEqual(least_choices(FAMILY, ["y"], faults), ((0,), (2,)))
        self.assertEqual(greatest_failures(FAMILY, ["y"], faults), ((1,),))
        self.assertEqual(habits(FAMILY, ["y"], faults), ("may", "needless", "may"))

    def test_order(self):
        """Choices with fewer indexes come first, also if one of them begins with a greater index."""
        family = FAMILY.found("x", exactly("ab", ["ab"])).lost("y").found("y", exactly("ab", ["aa"]))
        faults = [TWICE, OMIT, ("mistake", "b", "a", 1)]
        self.assertEqual(least_choices(family, ["y"], faults), ((2,), (0, 1)))
        self.assertEqual(greatest_failures(family, ["y"], faults), ((0,), (1,)))
        self.assertEqual(habits(family, ["y"], faults), ("may", "may", "may"))

    def test_limit(self):
        family = FAMILY.found("x", exactly("ab", ["ab"])).lost("y").found("y", exactly("ab", ["aaa"]))
        faults = [TWICE, ("mistake", "b", "a", 1)]
        self.assertEqual(least_choices(family, ["y"], faults), ((0, 1),))
        self.assertEqual(least_choices(family, ["y"], faults, limit=1), ())
        self.assertEqual(greatest_failures(family, ["y"], faults, limit=1), ((0, 1),))
        self.assertEqual(greatest_failures(family, ["y"], faults, limit=2), ((0,), (1,)))
        self.assertEqual(habits(family, ["y"], faults, limit=2), ("must", "must"))
        self.assertRaises(NoChoice, lambda: habits(family, ["y"], faults, limit=1))

    def test_supposed(self):
        faults = [OMIT, TWICE]
        claim = Claim.lies("x", exactly("ab", ["ab"]))
        self.assertEqual(least_choices(FAMILY, ["y"], faults, supposed=claim), ((1,),))
        self.assertEqual(greatest_failures(FAMILY, ["y"], faults, supposed=claim), ((0,),))
        self.assertEqual(habits(FAMILY, ["y"], faults, supposed=claim), ("needless", "must"))
        self.assertRaises(NoChoice, lambda: habits(FAMILY, ["y"], faults, supposed=claim & ~claim))
        self.assertRaises(NoChoice, lambda: habits(FAMILY.found("first", nothing("ab")), ["y"], faults))

    def test_words_of_the_document(self):
        rand = random.Random(107)
        pool = [OMIT, TWICE, TURN, ("leap", "a", 2), ("mistake", "b", "a", 1), ("merge", "a", 1), ("gloss", "b", "a", 3)]
        words, sizes = set(), set()
        for _ in range(150):
            texts = exactly("ab", [rand.choice(["aa", "ba", "a", "aab", "b", "ab", "bb"]) for _ in range(2)])
            other = exactly("ab", [rand.choice(["a", "ab", "bb", "abba", "aba", "aab"]) for _ in range(2)])
            family = Family("ab").copied("x", "first", FAITHFUL).copied("y", "x", FAITHFUL).found("y", texts).found("x", other)
            if rand.random() < 0.5:
                family = family.found("first", torn("ab", rand.choice(["a*", "*b*", "*b"])))
            faults = [rand.choice(pool) for _ in range(rand.randint(1, 4))]
            names = rand.choice([["y"], ["y"], ["y"], ["x", "y"], ["y", "x", "y"]])
            limit = rand.choice([None, None, 1, 2])
            claim = rand.choice([None, None, Claim.slips("y", 1)])
            good = [choice for choice in all_choices(len(faults)) if explains(family, names, faults, choice, limit=limit, supposed=claim)]
            bad = [choice for choice in all_choices(len(faults)) if choice not in good]
            least = tuple(choice for choice in good if not [other for other in good if set(other) < set(choice)])
            greatest = tuple(choice for choice in bad if not [other for other in bad if set(choice) < set(other)])
            self.assertEqual(least_choices(family, names, faults, limit=limit, supposed=claim), least)
            self.assertEqual(greatest_failures(family, names, faults, limit=limit, supposed=claim), greatest)
            sizes.add((len(least), len(greatest)))
            if not good:
                self.assertRaises(NoChoice, lambda: habits(family, names, faults, limit=limit, supposed=claim))
                continue
            having = [sum(index in choice for choice in least) for index in range(len(faults))]
            expected = tuple("must" if many == len(least) else "may" if many else "needless" for many in having)
            self.assertEqual(habits(family, names, faults, limit=limit, supposed=claim), expected)
            words.update(expected)
        self.assertEqual(words, {"must", "may", "needless"})
        self.assertGreater(len(sizes), 4, sizes)


if __name__ == "__main__":
    unittest.main()

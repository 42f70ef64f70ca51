"""Point 69."""

import collections
import itertools
import unittest

from firsthand.claims import Claim
from firsthand.families import Family
from firsthand.finds import fewest_finds, needless_finds
from firsthand.hands import Hand
from firsthand.setmaking import exactly, lengths, nothing, torn
from firsthand.verdicts import verdict
from tests.worlds import random_worlds

FAITHFUL = Hand.faithful("ab")
HAND = Hand.of_faults("ab", [("mistake", "a", "b", 1)])
# Three copies of the first text; z alone may have its letters mistaken.
THREE = Family("ab").copied("x", "first", FAITHFUL).copied("y", "first", FAITHFUL).copied("z", "first", HAND)


def with_only(family, names):
    for name in family.names:
        if family.kept(name) is not None and name not in names:
            family = family.lost(name)
    return family


def kept_names(family):
    return [name for name in family.names if family.kept(name) is not None]


class FewestTest(unittest.TestCase):
    def test_no_names(self):
        family = THREE.found("x", exactly("ab", ["a"]))
        self.assertEqual(fewest_finds(family, Claim.apart("x", "y", 0)), ())
        self.assertEqual(fewest_finds(THREE, Claim.apart("x", "y", 0)), ())
        self.assertIsNone(fewest_finds(THREE, Claim.apart("x", "z", 0)))

    def test_order_of_choices(self):
        begins = Claim.reads("first", 0, "a")
        family = THREE.found("z", torn("ab", "a*")).found("y", torn("ab", "a*")).found("x", torn("ab", "a*"))
        self.assertEqual(fewest_finds(family, begins), ("x",))
        self.assertEqual(fewest_finds(family.found("first", torn("ab", "a*")), begins), ("first",))
        self.assertEqual(fewest_finds(family.lost("x"), begins), ("y",))
        self.assertEqual(fewest_finds(family.lost("x").lost("y"), begins), ("z",))

    def test_several_names(self):
        family = THREE.found("x", torn("ab", "a*")).found("y", torn("ab", "?")).found("first", torn("ab", "*"))
        claim = Claim.lies("first", exactly("ab", ["a"]))
        self.assertEqual(fewest_finds(family, claim), ("x", "y"))
        self.assertEqual(fewest_finds(family.found("z", exactly("ab", ["a"])), claim), ("z",))
        self.assertIsNone(fewest_finds(family.found("x", torn("ab", "*b")).lost("y"), claim))
        # All finds together leave no history.
        self.assertEqual(fewest_finds(family.found("first", torn("ab", "*b")), claim), ("x", "y"))

    def test_all_names(self):
        family = THREE.found("first", torn("ab", "a???")).found("x", torn("ab", "?b*")).found("z", torn("ab", "???a"))
        family = family.found("y", torn("ab", "??a*"))
        claim = Claim.lies("first", exactly("ab", ["abaa"]))
        self.assertEqual(fewest_finds(family, claim), ("first", "x", "y", "z"))
        self.assertEqual(needless_finds(family, claim), ())

    def test_a_smaller_choice_may_do_where_all_finds_leave_no_history(self):
        family = THREE.found("x", exactly("ab", ["a"])).found("y", exactly("ab", ["b"]))
        self.assertEqual(fewest_finds(family, Claim.reads("first", 0, "b")), ("y",))
        self.assertEqual(needless_finds(family, Claim.reads("first", 0, "b")), ())
        self.assertIsNone(fewest_finds(THREE.found("x", nothing("ab")), Claim.reads("first", 0, "b")))

    def test_supposed(self):
        family = THREE.found("z", torn("ab", "*b*")).found("x", torn("ab", "*"))
        claim = Claim.lies("first", torn("ab", "*b*"))
        self.assertIsNone(fewest_finds(family, claim))
        self.assertEqual(fewest_finds(family, claim, supposed=Claim.costs(0)), ("z",))
        self.assertEqual(fewest_finds(family, claim, supposed=claim), ())
        self.assertIsNone(fewest_finds(family, claim, supposed=claim & ~claim))


class NeedlessTest(unittest.TestCase):
    def test_each_word(self):
        family = THREE.found("first", torn("ab", "a*")).found("x", torn("ab", "a*")).found("z", torn("ab", "??"))
        begins = Claim.reads("first", 0, "a")
        self.assertEqual(verdict(family, begins).word, "sure")
        self.assertEqual(needless_finds(family, begins), ("first", "x", "z"))
        self.assertEqual(needless_finds(family.lost("x"), begins), ("z",))
        self.assertEqual(verdict(family, ~begins).word, "never")
        self.assertEqual(needless_finds(family.lost("x"), ~begins), ("z",))
        ends = Claim.reads("first", 1, "b")
        self.assertEqual(verdict(family, ends).word, "open")
        self.assertEqual(needless_finds(family, ends), ("first", "x", "z"))
        none = family.found("y", torn("ab", "b*"))
        self.assertEqual(verdict(none, begins).word, "no history")
        self.assertEqual(needless_finds(none, begins), ("first", "x", "z"))
        self.assertEqual(needless_finds(THREE, begins), ())

    def test_supposed(self):
        family = THREE.found("z", torn("ab", "a*")).found("x", torn("ab", "?*"))
        claim = Claim.reads("first", 0, "a")
        self.assertEqual(needless_finds(family, claim), ("x",))
        self.assertEqual(needless_finds(family, claim, supposed=Claim.reads("x", 0, "a")), ("x", "z"))


class WordsOfTheDocumentTest(unittest.TestCase):
    def test_all_choices(self):
        sizes = collections.Counter()
        for family, claim, supposed in random_worlds(69, 250, kept=0.8):
            if supposed is not None and sizes["supposed"] % 2:
                supposed = None
            sizes["supposed"] += 1
            kept = kept_names(family)
            word = verdict(family, claim, supposed=supposed).word
            alone = [name for name in kept if verdict(family.lost(name), claim, supposed=supposed).word == word]
            self.assertEqual(needless_finds(family, claim, supposed=supposed), tuple(alone))
            expected = None
            for size in range(len(kept) + 1):
                for choice in itertools.combinations(kept, size):
                    if expected is None and verdict(with_only(family, choice), claim, supposed=supposed).word == "sure":
                        expected = choice
            self.assertEqual(fewest_finds(family, claim, supposed=supposed), expected)
            sizes[None if expected is None else len(expected)] += 1
        self.assertGreater(min(sizes[size] for size in (None, 0, 1, 2)), 1, sizes)

    def test_family_is_not_changed(self):
        family = THREE.found("first", lengths("ab", 1, 2)).found("x", torn("ab", "a*"))
        fewest_finds(family, Claim.costs(1))
        needless_finds(family, Claim.costs(1))
        self.assertEqual(kept_names(family), ["first", "x"])


if __name__ == "__main__":
    unittest.main()

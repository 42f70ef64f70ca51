"""Points 79 and 80."""

import unittest

from firsthand.catalogues import Catalogue
from firsthand.errors import (
    AlphabetsDiffer, BadAlphabet, BadName, NoWays, TakenName, TooManyCopies, UnknownCopy,
)
from firsthand.hands import Hand
from firsthand.setmaking import everything, exactly
from tests.brute import lists_of, only_tuples

HAND = Hand.faithful("ab")
OTHER = Hand.faithful("abc")
TEXTS = exactly("ab", ["a"])
WIDE = everything("abc")
COPIED = ("copied", "first", HAND)
ENTRIES = (
    ("p", (COPIED,)), ("q", (COPIED, ("joined", "p", "first", None, 1))), ("x", (("conflated", "q", "p", 2, 0),)),
    ("y", (("copied", "q", HAND), ("corrected", "x", "x", 0, 99))),
)
FINDS = (("y", TEXTS), ("first", TEXTS), ("x", TEXTS), ("y", everything("ab")))


class CatalogueCase(unittest.TestCase):
    def refused(self, act, error, *fields):
        with self.assertRaises(error) as caught:
            act()
        self.assertEqual(tuple(vars(caught.exception).values()), fields)


class MakingTest(CatalogueCase):
    def test_fields_and_properties(self):
        for entries, finds in ((ENTRIES, FINDS), (lists_of(ENTRIES), lists_of(FINDS))):
            catalogue = Catalogue("ab", entries, finds)
            self.assertEqual((catalogue.alphabet, catalogue.entries, catalogue.finds), ("ab", ENTRIES, FINDS))
            self.assertTrue(only_tuples((catalogue.entries, catalogue.finds)))
            self.assertEqual((catalogue.found_copies, catalogue.lost_copies), (("x", "y"), ("p", "q")))

    def test_empty(self):
        catalogue = Catalogue("ab", [], [])
        self.assertEqual((catalogue.entries, catalogue.finds, catalogue.found_copies, catalogue.lost_copies), ((), (), (), ()))
        catalogue = Catalogue("ab", ENTRIES[:2], [("first", TEXTS)])
        self.assertEqual((catalogue.found_copies, catalogue.lost_copies), ((), ("p", "q")))

    def test_arguments_are_copied(self):
        entries, finds = lists_of(ENTRIES), lists_of(FINDS)
        catalogue = Catalogue("ab", entries, finds)
        entries[1][1].append(COPIED)
        entries[1][1][1][1] = "zzz"
        entries[0][0] = "r"
        entries.pop()
        finds[0][0] = "p"
        finds.append(["p", TEXTS])
        self.assertEqual((catalogue.entries, catalogue.finds), (ENTRIES, FINDS))
        self.assertEqual(catalogue.found_copies, ("x", "y"))


class ErrorsTest(CatalogueCase):
    def test_alphabet_comes_first(self):
        many = [("", [])] * 9
        self.refused(lambda: Catalogue("ba", many, FINDS), BadAlphabet, "ba")
        self.refused(lambda: Catalogue("", [], []), BadAlphabet, "")

    def test_then_the_number_of_entries(self):
        self.refused(lambda: Catalogue("ab", [("", [])] * 9, [("q", WIDE)]), TooManyCopies, 9)
        self.refused(lambda: Catalogue("ab", [("", [])] * 11, []), TooManyCopies, 11)
        eight = [(f"c{at}", [COPIED]) for at in range(8)]
        self.assertEqual(len(Catalogue("ab", eight, []).entries), 8)

    def test_then_entry_by_entry(self):
        bad = [
            (("", []), BadName, [""]), (("First", []), BadName, ["First"]), (("a" * 9, [COPIED]), BadName, ["a" * 9]),
            (("first", []), TakenName, ["first"]), (("p", []), TakenName, ["p"]), (("q", []), NoWays, ["q"]),
            (("q", [("copied", "r", OTHER)]), UnknownCopy, ["r"]), (("q", [("copied", "q", HAND)]), UnknownCopy, ["q"]),
            (("q", [("copied", "", HAND)]), UnknownCopy, [""]), (("q", [("joined", "r", "s", None, 1)]), UnknownCopy, ["r"]),
            (("q", [("corrected", "p", "s", None, 1)]), UnknownCopy, ["s"]),
            (("q", [COPIED, ("copied", "p", OTHER)]), AlphabetsDiffer, ["ab", "abc"]),
            (("q", [("copied", "p", OTHER), ("copied", "r", HAND)]), AlphabetsDiffer, ["ab", "abc"]),
            (("q", [("conflated", "p", "r", None, 1), ("copied", "p", OTHER)]), UnknownCopy, ["r"]),
        ]
        start = ("p", [COPIED])
        for entry, error, fields in bad:
            self.refused(lambda: Catalogue("ab", [start, entry], [("z", WIDE)]), error, *fields)
            # Whatever is wrong with a later entry comes later.
            for later, _, _ in bad:
                self.refused(lambda: Catalogue("ab", [start, entry, later], []), error, *fields)

    def test_exemplars_are_earlier_entries(self):
        entries = [("x", [("copied", "y", HAND)]), ("y", [COPIED])]
        self.refused(lambda: Catalogue("ab", entries, []), UnknownCopy, "y")
        self.assertEqual(Catalogue("ab", entries[::-1], []).lost_copies, ("y", "x"))

    def test_then_find_by_find(self):
        entries = [("p", [COPIED])]
        self.refused(lambda: Catalogue("ab", entries, [("q", WIDE)]), UnknownCopy, "q")
        self.refused(lambda: Catalogue("ab", entries, [("p", TEXTS), ("p", WIDE), ("q", TEXTS)]), AlphabetsDiffer, "ab", "abc")
        self.refused(lambda: Catalogue("ab", entries, [("q", TEXTS), ("p", WIDE)]), UnknownCopy, "q")
        self.refused(lambda: Catalogue("ab", entries, [("first", WIDE)]), AlphabetsDiffer, "ab", "abc")
        self.refused(lambda: Catalogue("ab", [], [("", WIDE)]), UnknownCopy, "")


class ChangingTest(CatalogueCase):
    def setUp(self):
        self.catalogue = Catalogue("ab", ENTRIES, FINDS)

    def test_with_find(self):
        more = self.catalogue.with_find("p", TEXTS)
        self.assertEqual((more.alphabet, more.entries, more.finds), ("ab", ENTRIES, FINDS + (("p", TEXTS),)))
        self.assertEqual((more.found_copies, more.lost_copies), (("p", "x", "y"), ("q",)))
        self.assertEqual(self.catalogue.finds, FINDS)
        again = self.catalogue.with_find("first", TEXTS)
        self.assertEqual((again.found_copies, again.finds[-1]), (("x", "y"), ("first", TEXTS)))
        self.refused(lambda: self.catalogue.with_find("z", WIDE), UnknownCopy, "z")
        self.refused(lambda: self.catalogue.with_find("p", WIDE), AlphabetsDiffer, "ab", "abc")

    def test_with_way(self):
        way = ["joined", "first", "p", None, 1]
        more = self.catalogue.with_way("x", way)
        way[1] = "zzz"
        expected = (*ENTRIES[:2], ("x", ENTRIES[2][1] + (("joined", "first", "p", None, 1),)), ENTRIES[3])
        self.assertEqual((more.alphabet, more.entries, more.finds), ("ab", expected, FINDS))
        self.assertEqual(self.catalogue.entries, ENTRIES)
        same = self.catalogue.with_way("p", COPIED)
        self.assertEqual(same.entries[0], ("p", (COPIED, COPIED)))

    def test_errors_of_with_way(self):
        for name in ("first", "z", ""):
            self.refused(lambda: self.catalogue.with_way(name, ("copied", "r", OTHER)), UnknownCopy, name)
        self.refused(lambda: self.catalogue.with_way("x", ("copied", "x", HAND)), UnknownCopy, "x")
        self.refused(lambda: self.catalogue.with_way("x", ("copied", "y", OTHER)), UnknownCopy, "y")
        self.refused(lambda: self.catalogue.with_way("x", ("copied", "p", OTHER)), AlphabetsDiffer, "ab", "abc")


if __name__ == "__main__":
    unittest.main()

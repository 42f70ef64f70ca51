"""Point 84."""

import collections
import random
import unittest

from firsthand.catalogues import Catalogue
from firsthand.errors import NoStem, UnknownCopy
from firsthand.hands import Hand
from firsthand.needs import needs, with_copy, without_copy
from firsthand.setmaking import everything, exactly, nothing
from firsthand.stems import explaining
from tests.brute import only_tuples
from tests.test_stems import CHAIN, ENTRIES, random_catalogue

FAITHFUL = Hand.faithful("ab")
# Each of these hands writes one more letter; two of them are needed for two more.
LONGER = Hand("ab", [(0, "a", "a", 0, 0), (0, "a", "ab", 1, 1), (1, "a", "a", 0, 1)], [1])
CATALOGUE = Catalogue(
    "ab",
    [
        ("p", [("copied", "first", LONGER)]), ("q", [("copied", "first", FAITHFUL)]), ("r", [("joined", "q", "q", None, 1)]),
        ("x", [("copied", "p", FAITHFUL), ("joined", "p", "q", None, 1), ("copied", "r", FAITHFUL)]),
    ],
    [("first", exactly("ab", ["a"])), ("x", exactly("ab", ["ab"]))],
)


class NeedsTest(unittest.TestCase):
    def test_each_word(self):
        self.assertEqual(needs(CATALOGUE), (("p", "must"), ("q", "may"), ("r", "never")))
        self.assertTrue(only_tuples(needs(CATALOGUE)))
        self.assertEqual(needs(CATALOGUE.with_find("q", everything("ab"))), (("p", "must"), ("r", "never")))
        self.assertEqual(needs(CHAIN), (("p", "may"), ("q", "may"), ("y", "never")))

    def test_no_lost_copies(self):
        catalogue = Catalogue("ab", [("x", [("copied", "first", FAITHFUL)])], [("x", everything("ab"))])
        self.assertEqual(needs(catalogue), ())
        self.assertRaises(NoStem, lambda: needs(catalogue.with_find("x", nothing("ab"))))

    def test_no_found_copies(self):
        self.assertEqual(needs(Catalogue("ab", ENTRIES, [])), (("p", "never"), ("q", "never"), ("x", "never"), ("y", "never")))
        self.assertEqual(needs(Catalogue("ab", [], [])), ())

    def test_no_stem(self):
        self.assertRaises(NoStem, lambda: needs(CATALOGUE.with_find("x", exactly("ab", ["b"]))))
        self.assertRaises(NoStem, lambda: needs(Catalogue("ab", ENTRIES, [("first", nothing("ab"))])))


class WithTest(unittest.TestCase):
    def test_first_pairs(self):
        pairs = list(explaining(CATALOGUE))
        self.assertEqual([stem for stem, _ in pairs], [(("p", 0), ("x", 0)), (("p", 0), ("q", 0), ("x", 1))])
        self.assertEqual(with_copy(CATALOGUE, "p"), pairs[0])
        self.assertEqual(with_copy(CATALOGUE, "q"), pairs[1])
        self.assertEqual(with_copy(CATALOGUE, "x"), pairs[0])
        self.assertEqual(without_copy(CATALOGUE, "q"), pairs[0])
        self.assertEqual(without_copy(CATALOGUE, "r"), pairs[0])
        self.assertTrue(only_tuples(with_copy(CATALOGUE, "p")))

    def test_none(self):
        self.assertIsNone(with_copy(CATALOGUE, "r"))
        self.assertIsNone(without_copy(CATALOGUE, "p"))
        self.assertIsNone(without_copy(CATALOGUE, "x"))
        hopeless = CATALOGUE.with_find("x", exactly("ab", ["b"]))
        for name in ("p", "q", "r", "x"):
            self.assertIsNone(with_copy(hopeless, name))
            self.assertIsNone(without_copy(hopeless, name))

    def test_unknown_copy(self):
        for catalogue in (CATALOGUE, Catalogue("ab", [], [])):
            for ask in (with_copy, without_copy):
                for name in ("first", "z", ""):
                    with self.assertRaises(UnknownCopy) as caught:
                        ask(catalogue, name)
                    self.assertEqual(caught.exception.name, name)


class WordsOfTheDocumentTest(unittest.TestCase):
    def test_all_stems(self):
        rand = random.Random(84)
        words = collections.Counter()
        for _ in range(80):
            catalogue = random_catalogue(rand)
            pairs = list(explaining(catalogue))
            for name, _ in catalogue.entries:
                standing = [pair for pair in pairs if name in dict(pair[0])]
                others = [pair for pair in pairs if name not in dict(pair[0])]
                self.assertEqual(with_copy(catalogue, name), standing[0] if standing else None)
                self.assertEqual(without_copy(catalogue, name), others[0] if others else None)
            if not pairs:
                self.assertRaises(NoStem, lambda: needs(catalogue))
                continue
            found = needs(catalogue)
            self.assertEqual(tuple(name for name, _ in found), catalogue.lost_copies)
            for name, word in found:
                counted = {name in dict(stem) for stem, _ in pairs}
                self.assertEqual(word, {(True,): "must", (False,): "never"}.get(tuple(counted), "may"))
                words[word] += 1
        self.assertGreater(min(words[word] for word in ("must", "may", "never")), 2, words)


if __name__ == "__main__":
    unittest.main()

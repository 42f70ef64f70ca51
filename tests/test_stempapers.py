"""Point 85."""

import random
import unittest

from firsthand.catalogues import Catalogue
from firsthand.errors import UnknownCopy
from firsthand.hands import Hand
from firsthand.needs import needs
from firsthand.setmaking import everything, exactly, nothing
from firsthand.stempapers import are_stem_refutations, stem_refutations
from firsthand.stems import explaining, stem_family, stems
from firsthand.walks import is_refutation, reachable, refutation
from tests.brute import lists_of, only_tuples
from tests.test_needs import CATALOGUE
from tests.test_stems import CHAIN, random_catalogue

FAITHFUL = Hand.faithful("ab")
PAIRS = stem_refutations(CATALOGUE)
WITHOUT_P = stem_refutations(CATALOGUE, without="p")
# Two stems, of which none explains the finds, and each has more than one track.
HOPELESS = Catalogue(
    "ab", [("p", [("copied", "first", FAITHFUL)]), ("x", [("copied", "p", FAITHFUL), ("copied", "first", FAITHFUL)])],
    [("first", exactly("ab", ["ab"])), ("x", exactly("ab", ["aa"]))],
)


class StemRefutationsTest(unittest.TestCase):
    def test_all_stems_that_do_not_explain(self):
        self.assertEqual([stem for stem, _ in PAIRS], [(("q", 0), ("r", 0), ("x", 2))])
        self.assertEqual(PAIRS[0][1], refutation(stem_family(CATALOGUE, PAIRS[0][0])))
        self.assertEqual([stem for stem, _ in stem_refutations(HOPELESS)], list(stems(HOPELESS)))
        self.assertTrue(only_tuples(stem_refutations(HOPELESS)))
        self.assertEqual(stem_refutations(CHAIN), ())

    def test_without_a_copy(self):
        """Without p each stem is refuted, so p must have stood."""
        self.assertEqual(WITHOUT_P, PAIRS)
        self.assertEqual(dict(needs(CATALOGUE))["p"], "must")
        self.assertEqual(stem_refutations(CATALOGUE, without="q"), ())
        self.assertEqual(stem_refutations(CATALOGUE, without="x"), ())
        self.assertEqual(stem_refutations(HOPELESS, without="p"), stem_refutations(HOPELESS)[1:])

    def test_no_found_copy(self):
        catalogue = Catalogue("ab", HOPELESS.entries, [])
        self.assertEqual(stem_refutations(catalogue), ())
        catalogue = catalogue.with_find("first", nothing("ab"))
        self.assertEqual(stem_refutations(catalogue), (((), ()),))
        self.assertEqual(stem_refutations(catalogue, without="p"), (((), ()),))

    def test_unknown_copy(self):
        for name in ("first", "z", ""):
            for ask in (stem_refutations, lambda catalogue, without: are_stem_refutations(catalogue, [((), ())], without=without)):
                with self.assertRaises(UnknownCopy) as caught:
                    ask(CATALOGUE, without=name)
                self.assertEqual(caught.exception.name, name)

    def test_words_of_the_document(self):
        rand = random.Random(85)
        sizes = set()
        for _ in range(60):
            catalogue = random_catalogue(rand, most=4)
            good = [stem for stem, _ in explaining(catalogue)]
            for without in (None, *[name for name, _ in catalogue.entries]):
                looked_at = [stem for stem in stems(catalogue) if without is None or without not in dict(stem)]
                expected = [stem for stem in looked_at if stem not in good]
                pairs = stem_refutations(catalogue, without=without)
                self.assertEqual([stem for stem, _ in pairs], expected)
                for stem, table in pairs:
                    self.assertEqual(table, refutation(stem_family(catalogue, stem)))
                right = len(expected) == len(looked_at)
                self.assertIs(are_stem_refutations(catalogue, pairs, without=without), right)
                sizes.add((len(expected), right))
        self.assertGreater(len(sizes), 6)


class AreStemRefutationsTest(unittest.TestCase):
    def test_what_is_told(self):
        pairs = stem_refutations(HOPELESS)
        self.assertIs(are_stem_refutations(HOPELESS, pairs), True)
        self.assertIs(are_stem_refutations(HOPELESS, lists_of(pairs)), True)
        self.assertIs(are_stem_refutations(HOPELESS, pairs[::-1]), True)
        self.assertIs(are_stem_refutations(HOPELESS, pairs + pairs[:1]), True)
        self.assertIs(are_stem_refutations(CATALOGUE, WITHOUT_P, without="p"), True)

    def test_a_stem_is_missing(self):
        pairs = stem_refutations(HOPELESS)
        for wrong in ((), pairs[:1], pairs[1:], pairs[:1] * 2):
            self.assertIs(are_stem_refutations(HOPELESS, wrong), False)
        self.assertIs(are_stem_refutations(CATALOGUE, PAIRS), False)
        self.assertIs(are_stem_refutations(CATALOGUE, (), without="p"), False)

    def test_with_a_name_only_stems_without_the_copy(self):
        pairs = stem_refutations(HOPELESS)
        self.assertIs(are_stem_refutations(HOPELESS, pairs[1:], without="p"), True)
        self.assertIs(are_stem_refutations(HOPELESS, pairs, without="p"), False)
        self.assertIs(are_stem_refutations(HOPELESS, (), without="x"), True)
        self.assertIs(are_stem_refutations(HOPELESS, pairs[1:], without="x"), False)

    def test_what_is_no_stem(self):
        pairs = stem_refutations(HOPELESS)
        for stem in ((), (("p", 0),), (("x", 2),), (("x", -1),), (("x", 0),), (("z", 0),), (("x", 1), ("x", 1)), (("p", 0), ("x", 1))):
            self.assertIs(are_stem_refutations(HOPELESS, pairs + ((stem, ()),)), False, stem)

    def test_each_table_is_judged(self):
        pairs = stem_refutations(HOPELESS)
        (one, table), (two, other) = pairs
        self.assertGreater(min(len(table), len(other)), 1)
        for wrong in (table[1:], table[:-1], ()):
            self.assertIs(are_stem_refutations(HOPELESS, ((one, wrong), (two, other))), False)
            self.assertIs(are_stem_refutations(HOPELESS, pairs + ((one, wrong),)), False)
        full = stem_family(CATALOGUE, (("p", 0), ("x", 0)))
        self.assertIs(is_refutation(full, reachable(full)), False)
        explained = ((("p", 0), ("x", 0)), reachable(full))
        self.assertIs(are_stem_refutations(CATALOGUE, PAIRS + (explained,)), False)

    def test_no_found_copy(self):
        catalogue = Catalogue("ab", HOPELESS.entries, [("first", nothing("ab"))])
        self.assertIs(are_stem_refutations(catalogue, (((), ()),)), True)
        self.assertIs(are_stem_refutations(catalogue, ()), False)
        self.assertIs(are_stem_refutations(catalogue.with_find("x", everything("ab")), (((), ()),)), False)


if __name__ == "__main__":
    unittest.main()

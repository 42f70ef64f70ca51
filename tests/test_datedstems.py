"""Point 119."""

import inspect
import itertools
import random
import unittest

from firsthand.catalogues import Catalogue
from firsthand.datedstems import dated_explaining, dated_needs, undatable
from firsthand.datings import dating, is_ring
from firsthand.errors import NoStem
from firsthand.hands import Hand
from firsthand.needs import needs
from firsthand.setmaking import everything, exactly, nothing, torn
from firsthand.stems import explaining, stem_family, stems
from tests.brute import only_tuples
from tests.dates import random_statement
from tests.test_needs import CATALOGUE
from tests.test_stems import CHAIN, ENTRIES, random_catalogue

FAITHFUL = Hand.faithful("ab")
# All three stems of CHAIN explain the finds: x from q from p, x from q, x from the first text.
SHORT = [("between", "first", 10, None), ("between", "x", None, 12)]


class DatedExplainingTest(unittest.TestCase):
    def test_in_order(self):
        self.assertEqual([stem for stem, _ in explaining(CHAIN)], list(stems(CHAIN)))
        self.assertEqual(list(dated_explaining(CHAIN, SHORT)), list(explaining(CHAIN))[1:])
        self.assertEqual(list(dated_explaining(CHAIN, SHORT, gap=2)), list(explaining(CHAIN))[2:])
        self.assertEqual(list(dated_explaining(CHAIN, SHORT, gap=0)), list(explaining(CHAIN)))
        self.assertEqual(list(dated_explaining(CHAIN, [])), list(explaining(CHAIN)))
        self.assertEqual(list(dated_explaining(CHAIN, SHORT, gap=3)), [])
        self.assertTrue(only_tuples(tuple(dated_explaining(CHAIN, SHORT))))

    def test_statements_about_copies_that_do_not_stand(self):
        chronicle = [("after", "p", "x", 1), ("between", "q", 5, 4)]
        self.assertEqual([stem for stem, _ in dated_explaining(CHAIN, chronicle)], [(("x", 1),)])
        self.assertEqual([stem for stem, _ in dated_explaining(CHAIN, [("between", "p", 5, 4)])], [(("q", 1), ("x", 0)), (("x", 1),)])

    def test_lazily(self):
        way = ("copied", "first", FAITHFUL)
        entries = [(f"c{at}", [way] * 4) for at in range(8)]
        catalogue = Catalogue("ab", entries, [(name, torn("ab", "a?")) for name, _ in entries])
        found = list(itertools.islice(dated_explaining(catalogue, [("gone", "first", 3)]), 3))
        self.assertEqual(found, list(itertools.islice(explaining(catalogue), 3)))
        self.assertTrue(inspect.isgeneratorfunction(dated_explaining))

    def test_stems_that_do_not_explain(self):
        found = list(dated_explaining(CATALOGUE, []))
        self.assertEqual(found, list(explaining(CATALOGUE)))
        self.assertLess(len(found), len(list(stems(CATALOGUE))))


class DatedNeedsTest(unittest.TestCase):
    def test_words(self):
        self.assertEqual(needs(CHAIN), (("p", "may"), ("q", "may"), ("y", "never")))
        self.assertEqual(dated_needs(CHAIN, SHORT), (("p", "never"), ("q", "may"), ("y", "never")))
        self.assertEqual(dated_needs(CHAIN, SHORT, gap=2), (("p", "never"), ("q", "never"), ("y", "never")))
        self.assertEqual(dated_needs(CHAIN, []), needs(CHAIN))
        # The first text was gone before x was made, so x was made from another copy.
        gone = [("gone", "first", 5), ("between", "x", 9, None)]
        self.assertEqual(dated_needs(CHAIN, gone), (("p", "may"), ("q", "must"), ("y", "never")))
        self.assertTrue(only_tuples(dated_needs(CHAIN, gone)))

    def test_no_lost_copies(self):
        catalogue = Catalogue("ab", [("x", [("copied", "first", FAITHFUL)])], [("x", everything("ab"))])
        self.assertEqual(dated_needs(catalogue, SHORT), ())
        self.assertRaises(NoStem, lambda: dated_needs(catalogue, SHORT, gap=3))
        self.assertEqual(dated_needs(Catalogue("ab", [], []), []), ())

    def test_no_stem(self):
        self.assertRaises(NoStem, lambda: dated_needs(CHAIN, SHORT, gap=3))
        self.assertRaises(NoStem, lambda: dated_needs(CHAIN.with_find("x", nothing("ab")), []))
        # Of its stems one explains the finds and another one can be dated.
        entries = [("p", [("copied", "first", FAITHFUL)]), ("x", [("copied", "p", Hand.of_faults("ab", [("omit", "b", 1)])), ("copied", "first", FAITHFUL)])]
        catalogue = Catalogue("ab", entries, [("first", exactly("ab", ["ab"])), ("x", exactly("ab", ["a"]))])
        self.assertEqual(needs(catalogue), (("p", "must"),))
        self.assertRaises(NoStem, lambda: dated_needs(catalogue, [("after", "p", "x", 0), ("between", "p", 5, 4)]))
        self.assertEqual(len(undatable(catalogue, [("between", "p", 5, 4)])), 1)


class UndatableTest(unittest.TestCase):
    def test_rings(self):
        found = undatable(CHAIN, SHORT)
        self.assertEqual([stem for stem, _ in found], list(stems(CHAIN))[:1])
        for stem, ring in undatable(CHAIN, SHORT, gap=3):
            self.assertIs(is_ring(stem_family(CHAIN, stem), SHORT, ring, gap=3), True)
        self.assertEqual([stem for stem, _ in undatable(CHAIN, SHORT, gap=3)], list(stems(CHAIN)))
        self.assertEqual(undatable(CHAIN, []), ())
        self.assertTrue(only_tuples(found))

    def test_stems_without_histories(self):
        hopeless = CHAIN.with_find("x", nothing("ab"))
        self.assertEqual(undatable(hopeless, SHORT), undatable(CHAIN, SHORT))
        self.assertEqual(undatable(Catalogue("ab", ENTRIES, [("first", nothing("ab"))]), [("between", "first", 2, 1)])[0][0], ())

    def test_words_of_the_document(self):
        rand = random.Random(121)
        counts = set()
        for _ in range(150):
            catalogue = random_catalogue(rand, most=4)
            names = ["first", *[name for name, _ in catalogue.entries]]
            chronicle = [random_statement(rand) for _ in range(rand.randint(0, 2))]
            if rand.random() < 0.7:
                chronicle += [("between", names[-1], None, 4), ("between", "first", rand.randint(1, 3), None)]
            gap = rand.choice([0, 1, 2])
            fine = [stem for stem in stems(catalogue) if dating(stem_family(catalogue, stem), chronicle, gap=gap).possible]
            pairs = [pair for pair in explaining(catalogue) if pair[0] in fine]
            self.assertEqual(list(dated_explaining(catalogue, chronicle, gap=gap)), pairs)
            found = undatable(catalogue, chronicle, gap=gap)
            self.assertEqual([stem for stem, _ in found], [stem for stem in stems(catalogue) if stem not in fine])
            for stem, ring in found:
                self.assertIs(is_ring(stem_family(catalogue, stem), chronicle, ring, gap=gap), True)
            counts.add((len(pairs) > 0, len(found) > 0))
            if not pairs:
                self.assertRaises(NoStem, lambda: dated_needs(catalogue, chronicle, gap=gap))
                continue
            expected = []
            for name in catalogue.lost_copies:
                counted = {name in dict(stem) for stem, _ in pairs}
                expected.append((name, {(True,): "must", (False,): "never"}.get(tuple(counted), "may")))
            self.assertEqual(dated_needs(catalogue, chronicle, gap=gap), tuple(expected))
        self.assertEqual(len(counts), 4)


if __name__ == "__main__":
    unittest.main()

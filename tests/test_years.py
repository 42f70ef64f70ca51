"""Point 118."""

import random
import unittest

from firsthand.chronicles import bonds
from firsthand.datings import dating
from firsthand.errors import NoDating, UnknownCopy
from firsthand.families import Family
from firsthand.years import sure_chain, sure_gap, sure_order, year_range
from tests.brute import only_tuples
from tests.dates import FAITHFUL, all_datings, greatest_sums, random_chronicle, random_copies

CHAIN = Family("ab").copied("x", "first", FAITHFUL).copied("y", "x", FAITHFUL)
CHRONICLE = [("between", "y", 1210, 1240), ("gone", "first", 1200)]
RING = [("after", "y", "first", 0)]


class YearsTest(unittest.TestCase):
    def test_documents_example(self):
        self.assertEqual([year_range(CHAIN, CHRONICLE, "x"), sure_gap(CHAIN, CHRONICLE, "first", "y")], [(None, 1200), 11])

    def test_year_range(self):
        self.assertEqual(year_range(CHAIN, CHRONICLE, "y"), (1210, 1240))
        self.assertEqual(year_range(CHAIN, CHRONICLE, "first"), (None, 1199))
        self.assertEqual(year_range(CHAIN, [("between", "first", 7, None)], "y"), (9, None))
        self.assertEqual(year_range(CHAIN, [("between", "first", 7, None)], "y", gap=30), (67, None))
        self.assertEqual(year_range(CHAIN, [], "x"), (None, None))
        self.assertEqual(year_range(CHAIN, [("between", "x", 0, 0)], "x"), (0, 0))

    def test_sure_gap(self):
        self.assertEqual(sure_gap(CHAIN, [], "first", "y"), 2)
        self.assertEqual(sure_gap(CHAIN, [], "first", "y", gap=10), 20)
        self.assertIsNone(sure_gap(CHAIN, [], "y", "first"))
        self.assertEqual(sure_gap(CHAIN, [("scribe", ("y", "first"), 5)], "y", "first"), -5)
        self.assertEqual(sure_gap(CHAIN, [("scribe", ("x", "first"), 5)], "x", "y"), 1)
        self.assertIsNone(sure_gap(CHAIN, CHRONICLE, "x", "first"))
        self.assertEqual(sure_gap(CHAIN, CHRONICLE, "x", "y"), 10)

    def test_one_name_twice(self):
        for chronicle in ([], CHRONICLE, [("after", "x", "x", -3)], [("after", "x", "x", 0)]):
            for name in CHAIN.names:
                self.assertEqual(sure_gap(CHAIN, chronicle, name, name), 0)
                self.assertEqual(sure_chain(CHAIN, chronicle, name, name), ())

    def test_sure_chain(self):
        self.assertEqual(sure_chain(CHAIN, CHRONICLE, "first", "y"), (("y", None, 1210), (None, "x", -1200), ("x", "first", 1)))
        self.assertEqual(sure_chain(CHAIN, [], "first", "y"), (("y", "x", 1), ("x", "first", 1)))
        self.assertIsNone(sure_chain(CHAIN, [], "y", "first"))
        self.assertTrue(only_tuples(sure_chain(CHAIN, CHRONICLE, "first", "y")))

    def test_sure_order(self):
        family = CHAIN.copied("z", "first", FAITHFUL)
        self.assertEqual(sure_order(family, []), (("first", "x"), ("first", "y"), ("first", "z"), ("x", "y")))
        self.assertEqual(sure_order(family, [], gap=0), ())
        self.assertEqual(sure_order(family, [("between", "z", None, 1), ("between", "x", 2, None)]),
                         (("first", "x"), ("first", "y"), ("first", "z"), ("x", "y"), ("z", "x"), ("z", "y")))
        self.assertEqual(sure_order(Family("a"), []), ())
        # With a gap of 2 instead of 1 there were a ring.
        near = [("after", "y", "first", -2)]
        self.assertEqual(sure_order(CHAIN, near), (("first", "x"), ("first", "y"), ("x", "y")))
        self.assertRaises(NoDating, lambda: sure_order(CHAIN, near, gap=2))

    def test_errors(self):
        for chronicle in (CHRONICLE, RING):
            for ask, name in (
                    (lambda: year_range(CHAIN, chronicle, "q"), "q"), (lambda: sure_gap(CHAIN, chronicle, "q", "r"), "q"),
                    (lambda: sure_gap(CHAIN, chronicle, "x", "r"), "r"), (lambda: sure_chain(CHAIN, chronicle, "q", "q"), "q"),
                    (lambda: sure_chain(CHAIN, chronicle, "first", ""), ""),
            ):
                with self.assertRaises(UnknownCopy) as caught:
                    ask()
                self.assertEqual(caught.exception.name, name)
        for ask in (lambda: year_range(CHAIN, RING, "x"), lambda: sure_gap(CHAIN, RING, "x", "x"), lambda: sure_chain(CHAIN, RING, "first", "y"),
                    lambda: sure_order(CHAIN, RING), lambda: sure_order(CHAIN, [("between", "x", 2, 1)])):
            self.assertRaises(NoDating, ask)
        self.assertEqual(sure_order(CHAIN, RING[:0]), (("first", "x"), ("first", "y"), ("x", "y")))
        self.assertRaises(NoDating, lambda: year_range(CHAIN, CHRONICLE, "x", gap=99) and sure_order(CHAIN, RING))

    def test_words_of_the_document(self):
        """Each bound is what the bonds give, and some dating reaches it."""
        rand = random.Random(119)
        many = 0
        for _ in range(250):
            family, chronicle, gap = random_copies(rand), random_chronicle(rand), rand.choice([0, 1, 2])
            if not dating(family, chronicle, gap=gap).possible:
                self.assertRaises(NoDating, lambda: sure_order(family, chronicle, gap=gap))
                continue
            known = bonds(family, chronicle, gap=gap)
            sums = greatest_sums(family.names, known)
            for one in family.names:
                least, most = sums.get((None, one)), sums.get((one, None))
                self.assertEqual(year_range(family, chronicle, one, gap=gap), (least, None if most is None else -most))
                for two in family.names:
                    expected = sums.get((one, two))
                    self.assertEqual(sure_gap(family, chronicle, one, two, gap=gap), expected)
                    self.check_chain(sure_chain(family, chronicle, one, two, gap=gap), one, two, expected, known)
                    many += expected is not None and one != two
            pairs = tuple((one, two) for one in family.names for two in family.names if sums.get((one, two), 0) >= 1)
            self.assertEqual(sure_order(family, chronicle, gap=gap), pairs)
        self.assertGreater(many, 300)

    def check_chain(self, chain, one, two, expected, known):
        if one == two:
            self.assertEqual(chain, ())
        elif expected is None:
            self.assertIsNone(chain)
        else:
            self.assertEqual((chain[0][0], chain[-1][1]), (two, one))
            self.assertEqual([early for _, early, _ in chain[:-1]], [late for late, _, _ in chain[1:]])
            self.assertEqual(sum(years for _, _, years in chain), expected)
            self.assertLessEqual(set(chain), set(known))

    def test_all_datings(self):
        """In families with few names, over all datings with years of a small range."""
        rand = random.Random(120)
        many = 0
        for _ in range(80):
            family, chronicle = random_copies(rand, most=2), (("between", "first", -2, 3), *random_chronicle(rand))
            chronicle += tuple(("between", name, None, 6) for name in family.made)
            found = all_datings(family, chronicle, 1, -3, 7)
            if not found:
                self.assertRaises(NoDating, lambda: sure_order(family, chronicle))
                continue
            many += 1
            for one in family.names:
                years = [known[one] for known in found]
                self.assertEqual(year_range(family, chronicle, one), (min(years), max(years)))
                for two in family.names:
                    self.assertEqual(sure_gap(family, chronicle, one, two), min(known[two] - known[one] for known in found))
        self.assertGreater(many, 30)


if __name__ == "__main__":
    unittest.main()

"""Points 115 and 116."""

import random
import unittest

from firsthand.chronicles import bonds
from firsthand.families import Family
from tests.brute import lists_of, only_tuples
from tests.dates import FAITHFUL, NAMES, fits, random_chronicle, random_copies

FAMILY = Family("ab").copied("x", "first", FAITHFUL).joined("j", "x", "first").corrected("k", "j", "j").copied("y", "x", FAITHFUL)
MADE = (("x", "first", 1), ("j", "x", 1), ("j", "first", 1), ("k", "j", 1), ("k", "j", 1), ("y", "x", 1))


def told(*statements):
    """The bonds of the statements alone."""
    found = bonds(FAMILY, statements)
    assert found[:len(MADE)] == MADE
    return found[len(MADE):]


class BondsTest(unittest.TestCase):
    def test_makings(self):
        self.assertEqual(bonds(FAMILY, ()), MADE)
        self.assertEqual(bonds(FAMILY, [], gap=0), tuple((late, early, 0) for late, early, _ in MADE))
        self.assertEqual(bonds(FAMILY, [], gap=99)[0], ("x", "first", 99))
        self.assertEqual(bonds(Family("a"), ()), ())

    def test_between(self):
        self.assertEqual(told(("between", "x", 3, 7)), (("x", None, 3), (None, "x", -7)))
        self.assertEqual(told(("between", "first", -3, None)), (("first", None, -3),))
        self.assertEqual(told(("between", "x", None, -7)), ((None, "x", 7),))
        self.assertEqual(told(("between", "x", None, None)), ())
        self.assertEqual(told(("between", "x", 0, 0)), (("x", None, 0), (None, "x", 0)))

    def test_after(self):
        self.assertEqual(told(("after", "x", "y", 5)), (("y", "x", 5),))
        self.assertEqual(told(("after", "y", "first", -5)), (("first", "y", -5),))
        self.assertEqual(told(("after", "x", "x", 2)), (("x", "x", 2),))

    def test_gone(self):
        self.assertEqual(told(("gone", "x", 8)), ((None, "j", -8), (None, "y", -8)))
        self.assertEqual(told(("gone", "j", -8)), ((None, "k", 8),))
        self.assertEqual(told(("gone", "first", 0)), ((None, "x", 0), (None, "j", 0)))
        self.assertEqual(told(("gone", "y", 8)), ())

    def test_scribe(self):
        self.assertEqual(told(("scribe", ("y", "x", "k"), 4)), (
            ("y", "x", -4), ("y", "k", -4), ("x", "y", -4), ("x", "k", -4), ("k", "y", -4), ("k", "x", -4),
        ))
        self.assertEqual(told(("scribe", ("x", "x"), 4)), (("x", "x", -4), ("x", "x", -4)))
        self.assertEqual(told(("scribe", ["x", "y", "x"], 0)), (
            ("x", "y", 0), ("x", "x", 0), ("y", "x", 0), ("y", "x", 0), ("x", "x", 0), ("x", "y", 0),
        ))
        self.assertEqual((told(("scribe", (), 4)), told(("scribe", ("x",), 4))), ((), ()))

    def test_names_that_the_family_lacks(self):
        self.assertEqual(told(("between", "q", 1, 2), ("between", "", 1, 2), ("gone", "q", 1), ("gone", "", 2)), ())
        self.assertEqual(told(("after", "q", "x", 1), ("after", "x", "q", 1), ("after", "q", "q", 1), ("after", "x", "No Name", 1)), ())
        self.assertEqual(told(("scribe", ("q", "x", "r", "y", "s"), 4)), (("x", "y", -4), ("y", "x", -4)))
        self.assertEqual(told(("scribe", ("q", "x"), 4), ("scribe", ("q", "r"), 4)), ())

    def test_order_of_statements(self):
        self.assertEqual(told(("gone", "j", 1), ("after", "x", "y", 2), ("between", "x", 3, 4), ("after", "x", "y", 2)), (
            (None, "k", -1), ("y", "x", 2), ("x", None, 3), (None, "x", -4), ("y", "x", 2),
        ))

    def test_lists(self):
        chronicle = [["between", "x", 3, 7], ["scribe", ["x", "y"], 1], ["after", "x", "y", 1], ["gone", "x", 1]]
        kept = lists_of(chronicle)
        self.assertEqual(bonds(FAMILY, chronicle), bonds(FAMILY, tuple((*statement,) for statement in chronicle)))
        self.assertEqual(chronicle, kept)
        self.assertTrue(only_tuples(bonds(FAMILY, chronicle)))

    def test_words_of_the_document(self):
        """Years fit the statements exactly if all bonds hold."""
        rand = random.Random(116)
        seen = {True: 0, False: 0}
        for _ in range(1500):
            family, chronicle, gap = random_copies(rand), random_chronicle(rand), rand.choice([0, 1, 2])
            years = {name: rand.randint(-4, 8) for name in family.names}
            if rand.random() < 0.8:
                years = dict(zip(family.names, sorted(years.values())))
            known = {**years, None: 0}
            right = all(known[late] >= known[early] + least for late, early, least in bonds(family, chronicle, gap=gap))
            self.assertIs(right, fits(family, chronicle, years, gap))
            seen[right] += 1
        self.assertGreater(min(seen.values()), 200, seen)
        self.assertIn("first", NAMES)


if __name__ == "__main__":
    unittest.main()

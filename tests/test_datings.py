"""Point 117."""

import random
import unittest

from firsthand.chronicles import bonds
from firsthand.datings import dating, is_dating, is_ring
from firsthand.families import Family
from tests.brute import lists_of, only_tuples
from tests.dates import FAITHFUL, all_datings, fits, random_chronicle, random_copies

CHAIN = Family("ab").copied("x", "first", FAITHFUL).copied("y", "x", FAITHFUL)
LATE = [("between", "first", 10, None), ("between", "y", None, 12)]
TIGHT = [("between", "first", 10, None), ("between", "y", None, 11)]


class DatingTest(unittest.TestCase):
    def test_possible(self):
        answer = dating(CHAIN, LATE)
        self.assertEqual((answer.possible, answer.years, answer.ring), (True, (("first", 10), ("x", 11), ("y", 12)), None))
        self.assertIs(answer.possible, True)
        self.assertTrue(only_tuples(answer.years))
        self.assertEqual([name for name, _ in dating(CHAIN, []).years], ["first", "x", "y"])
        self.assertIs(is_dating(CHAIN, [], dating(CHAIN, []).years), True)

    def test_ring(self):
        answer = dating(CHAIN, TIGHT)
        self.assertEqual((answer.possible, answer.years), (False, None))
        self.assertIs(answer.possible, False)
        self.assertIs(is_ring(CHAIN, TIGHT, answer.ring), True)
        self.assertEqual(sorted(answer.ring, key=str), sorted([("x", "first", 1), ("y", "x", 1), (None, "y", -11), ("first", None, 10)], key=str))
        self.assertTrue(only_tuples(answer.ring))

    def test_gap(self):
        for gap, right in ((0, True), (1, False), (99, False)):
            self.assertIs(dating(CHAIN, TIGHT, gap=gap).possible, right)
        self.assertIs(dating(CHAIN, [("after", "y", "first", 0)], gap=0).possible, True)
        self.assertIs(dating(CHAIN, [("after", "y", "first", 1)], gap=0).possible, False)

    def test_small_rings(self):
        self.assertEqual(dating(CHAIN, [("after", "x", "x", 1)]).ring, (("x", "x", 1),))
        self.assertEqual(set(dating(CHAIN, [("between", "x", 5, 4)]).ring), {("x", None, 5), (None, "x", -4)})
        self.assertIs(dating(CHAIN, [("after", "x", "x", 0), ("between", "x", 4, 4), ("scribe", ("x", "x"), 0)]).possible, True)

    def test_unknown_names_do_not_count(self):
        self.assertIs(dating(CHAIN, [("after", "q", "q", 1), ("between", "q", 5, 4)]).possible, True)

    def test_ring_far_from_what_grows(self):
        family = Family("ab").copied("c1", "first", FAITHFUL)
        for number in range(2, 9):
            family = family.copied(f"c{number}", f"c{number - 1}", FAITHFUL)
        for chronicle in ([("after", "c1", "first", 0)], [("after", "c8", "first", -7)], [("between", "c8", None, -9999), ("between", "c4", -9999, None)]):
            answer = dating(family, chronicle)
            self.assertIs(answer.possible, False)
            self.assertIs(is_ring(family, chronicle, answer.ring), True)

    def test_words_of_the_document(self):
        rand = random.Random(117)
        seen = {True: 0, False: 0}
        for _ in range(400):
            family, chronicle, gap = random_copies(rand), random_chronicle(rand), rand.choice([0, 1, 1, 3])
            answer = dating(family, chronicle, gap=gap)
            seen[answer.possible] += 1
            if answer.possible:
                self.assertEqual(tuple(name for name, _ in answer.years), family.names)
                self.assertTrue(fits(family, chronicle, dict(answer.years), gap))
                self.assertIs(is_dating(family, chronicle, answer.years, gap=gap), True)
                self.assertIsNone(answer.ring)
            else:
                self.assertIs(is_ring(family, chronicle, answer.ring, gap=gap), True)
                self.assertIsNone(answer.years)
                if len(family.names) < 4:
                    self.assertEqual(all_datings(family, chronicle, gap, -6, 10), [])
        self.assertGreater(min(seen.values()), 30, seen)


class IsDatingTest(unittest.TestCase):
    def test_right_ones(self):
        right = (("first", 10), ("x", 11), ("y", 12))
        self.assertIs(is_dating(CHAIN, LATE, right), True)
        self.assertIs(is_dating(CHAIN, lists_of(LATE), lists_of(right[::-1])), True)
        self.assertIs(is_dating(CHAIN, [], (("y", 10 ** 9), ("first", -10 ** 9), ("x", 0))), True)
        self.assertIs(is_dating(CHAIN, [], (("first", 5), ("x", 5), ("y", 5)), gap=0), True)

    def test_bonds_that_do_not_hold(self):
        for years in ((9, 11, 12), (10, 10, 12), (10, 11, 13), (10, 12, 12), (11, 12, 13)):
            self.assertIs(is_dating(CHAIN, LATE, tuple(zip(CHAIN.names, years))), False)
        self.assertIs(is_dating(CHAIN, LATE, (("first", 10), ("x", 11), ("y", 12)), gap=2), False)

    def test_each_name_exactly_once(self):
        right = (("first", 10), ("x", 11), ("y", 12))
        wrong = [(), right[:2], right[1:], right + right[:1], right + (("x", 12),), right + (("q", 12),), right[:2] + (("q", 12),),
                 right + (("", 12),), right[:2] + right[:1], right * 2]
        for years in wrong:
            self.assertIs(is_dating(CHAIN, [], years), False, years)
        self.assertIs(is_dating(Family("a"), [], (("first", 0),)), True)
        self.assertIs(is_dating(Family("a"), [("between", "first", 0, 0)], [["first", 1]]), False)


class IsRingTest(unittest.TestCase):
    RIGHT = (("x", "first", 1), ("first", None, 10), (None, "y", -11), ("y", "x", 1))

    def test_right_ones(self):
        self.assertIs(is_ring(CHAIN, TIGHT, self.RIGHT), True)
        self.assertIs(is_ring(CHAIN, lists_of(TIGHT), lists_of(self.RIGHT)), True)
        for at in range(4):
            self.assertIs(is_ring(CHAIN, TIGHT, self.RIGHT[at:] + self.RIGHT[:at]), True)

    def test_a_bond_several_times(self):
        self.assertIs(is_ring(CHAIN, TIGHT, self.RIGHT * 3), True)
        self.assertIs(is_ring(CHAIN, [("after", "x", "x", 1)], (("x", "x", 1),) * 5), True)

    def test_no_bonds(self):
        for family in (CHAIN, Family("a")):
            self.assertIs(is_ring(family, TIGHT, ()), False)

    def test_what_does_not_hang_together(self):
        right = self.RIGHT
        for ring in (right[::-1], right[:3], right[1:], (right[0], right[2], right[1], right[3]), right + right[:1], right[:1], right[:2]):
            self.assertIs(is_ring(CHAIN, TIGHT, ring), False, ring)

    def test_years_that_do_not_add_up(self):
        ring = (("x", "first", 1), ("first", None, 10), (None, "y", -12), ("y", "x", 1))
        self.assertIs(is_ring(CHAIN, LATE, ring), False)
        self.assertIs(is_ring(CHAIN, [("between", "x", 4, 4)], (("x", None, 4), (None, "x", -4))), False)
        self.assertIs(is_ring(CHAIN, [("after", "x", "x", 0)], (("x", "x", 0),)), False)

    def test_what_is_no_bond(self):
        right = self.RIGHT
        for at in range(4):
            late, early, years = right[at]
            for wrong in ((late, early, years + 1), (early, late, years), (late, "q", years), ("q", early, years)):
                self.assertIs(is_ring(CHAIN, TIGHT, right[:at] + (wrong,) + right[at + 1:]), False)
        self.assertIs(is_ring(CHAIN, TIGHT, (("q", "q", 1),)), False)
        self.assertIs(is_ring(CHAIN, TIGHT, ((None, None, 1),)), False)
        self.assertIs(is_ring(CHAIN, TIGHT, right, gap=2), False)
        self.assertIs(is_ring(CHAIN, TIGHT[:1], right), False)


class BothTest(unittest.TestCase):
    def test_never_both(self):
        """With a ring no years are a dating."""
        rand = random.Random(118)
        for _ in range(200):
            family, chronicle = random_copies(rand), random_chronicle(rand)
            years = tuple((name, rand.randint(-3, 9)) for name in family.names)
            self.assertIs(is_dating(family, chronicle, years), fits(family, chronicle, dict(years), 1))
            found = bonds(family, chronicle)
            if found and not dating(family, chronicle).possible:
                self.assertIs(is_dating(family, chronicle, years), False)


if __name__ == "__main__":
    unittest.main()

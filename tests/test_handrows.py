import itertools
import unittest

from firsthand.handrows import least_row, rows_between
from firsthand.hands import Hand
from tests.brute import all_texts, copy_of, exemplar_of, only_tuples
from tests.test_hands import let_rows, random_hands


class HandRowsTest(unittest.TestCase):
    def test_random_hands(self):
        for hand in random_hands(40, 40, rules=9):
            rows = let_rows(hand, 3)
            for exemplar, copy in itertools.product(all_texts("ab", 3), all_texts("ab", 4)):
                expected = [row for row in rows if exemplar_of(row) == exemplar and copy_of(row) == copy]
                found = list(rows_between(hand, exemplar, copy))
                self.assertEqual(found, expected)
                self.assertTrue(all(only_tuples(row) for row in found))
                cheapest = min(expected, key=lambda row: sum(stroke[2] for stroke in row), default=None)
                self.assertEqual(least_row(hand, exemplar, copy), cheapest)

    def test_first_of_several_cheapest(self):
        rules = [(0, "a", "", 2, 0), (0, "a", "a", 1, 0), (0, "a", "aa", 0, 0), (0, "a", "aa", 2, 0)]
        hand = Hand("a", rules, [0])
        # Through the empty block and then "aa" it costs as much as by two times "a".
        self.assertEqual(least_row(hand, "aa", "aa"), (("a", "", 2), ("a", "aa", 0)))

    def test_empty_texts(self):
        hand = Hand("ab", [(0, "a", "", 1, 0)], [0])
        self.assertEqual(list(rows_between(hand, "", "")), [()])
        self.assertEqual(least_row(hand, "", ""), ())
        self.assertEqual(list(rows_between(hand, "a", "")), [(("a", "", 1),)])
        self.assertEqual(list(rows_between(hand, "", "a")), [])
        self.assertIsNone(least_row(hand, "", "a"))
        self.assertIsNone(least_row(Hand("ab", [], []), "", ""))
        self.assertEqual(list(rows_between(Hand("ab", [], []), "", "")), [])

    def test_other_letters(self):
        hand = Hand.faithful("ab")
        for exemplar, copy in (("z", "z"), ("a", "z"), ("z", "a"), ("az", "a"), ("a", "az")):
            self.assertEqual(list(rows_between(hand, exemplar, copy)), [])
            self.assertIsNone(least_row(hand, exemplar, copy))

    def test_sixteen_letters(self):
        rules = [(0, "a", block, cost, 0) for block in ("", "a", "aa") for cost in (0, 1)]
        hand = Hand("ab", rules, [0])
        found = rows_between(hand, "a" * 16, "a" * 16)
        first = next(found)
        self.assertEqual(first, (("a", "", 0),) * 8 + (("a", "aa", 0),) * 8)
        self.assertEqual(next(found), first[:-1] + (("a", "aa", 1),))
        self.assertEqual(least_row(hand, "a" * 16, "a" * 16), first)

import itertools
import unittest

from firsthand.strokes import row_copy, row_cost, row_exemplar, row_slips, stroke_order


class StrokesTest(unittest.TestCase):
    def test_order(self):
        blocks = ["", "a", "b", "aa", "ab", "ba", "bb"]
        strokes = [(letter, block, cost) for letter in "ab" for block in blocks for cost in (-1, 0, 1, 10)]
        self.assertEqual(sorted(reversed(strokes), key=stroke_order), strokes)

    def test_order_of_lists(self):
        strokes = [["b", "", 0], ["a", "bb", 0], ["a", "b", 10], ["a", "b", 9]]
        self.assertEqual(sorted(strokes, key=stroke_order), list(reversed(strokes)))

    def test_parts(self):
        row = [("a", "ab", 3), ("b", "", 0), ("c", "c", 1), ("a", "", 0)]
        for passed in (row, tuple(row), [list(stroke) for stroke in row]):
            self.assertEqual(row_exemplar(passed), "abca")
            self.assertEqual(row_copy(passed), "abc")
            self.assertEqual(row_cost(passed), 4)
            self.assertEqual(row_slips(passed), 2)

    def test_empty_row(self):
        for row in ((), []):
            self.assertEqual([row_exemplar(row), row_copy(row), row_cost(row), row_slips(row)], ["", "", 0, 0])

    def test_slips_begin_with_one(self):
        for costs in itertools.product((-3, 0, 1, 99), repeat=3):
            row = [("a", "b", cost) for cost in costs]
            self.assertEqual(row_slips(row), len([cost for cost in costs if cost >= 1]))
            self.assertEqual(row_cost(row), sum(costs))

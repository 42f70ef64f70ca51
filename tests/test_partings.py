import itertools
import unittest

from firsthand.errors import AlphabetsDiffer
from firsthand.hands import Hand, least
from firsthand.partings import is_parting_table, part
from tests.brute import lists_of, only_tuples, row_key, rows_of, stroke_key
from tests.test_hands import let_rows, random_hands


def states_after(hand, row):
    return hand.state_after(row)


def pairs_of(one, two, longest):
    """The pairs of all rows in ascending order of rows, each once."""
    strokes = sorted({*one.strokes, *two.strokes}, key=stroke_key)
    found = {}
    for length in range(longest + 1):
        for row in itertools.product(strokes, repeat=length):
            pair = (one.state_after(row), two.state_after(row))
            if pair != (None, None):
                found[pair] = True
    return tuple(found)


class PartTest(unittest.TestCase):
    def test_same_hand_made_otherwise(self):
        for hand in random_hands(50, 40, states=2, rules=4):
            for other in (least(hand), hand):
                for one, two in ((hand, other), (other, hand)):
                    answer = part(one, two)
                    self.assertIs(answer.same, True)
                    self.assertIsNone(answer.row)
                    self.assertIsNone(answer.holder)
                    self.assertEqual(answer.table, pairs_of(one, two, 5))
                    self.assertTrue(only_tuples(answer.table))
                    self.assertIs(is_parting_table(one, two, answer.table), True)

    def test_different_hands(self):
        hands = random_hands(51, 30, states=2, rules=4)
        different = 0
        for one, two in itertools.product(hands, hands):
            left, right = let_rows(one, 5), let_rows(two, 5)
            answer = part(one, two)
            self.assertIs(answer.same, left == right)
            if left != right:
                different += 1
                row = sorted({*left} ^ {*right}, key=row_key)[0]
                self.assertEqual((answer.row, answer.holder, answer.table), (row, 0 if row in left else 1, ()))
                self.assertTrue(only_tuples(answer.row))
        self.assertGreater(different, 100)

    def test_no_rows(self):
        answer = part(Hand("ab", [], []), Hand("ab", [(0, "a", "", 0, 3)], []))
        self.assertEqual((answer.same, answer.table), (True, ((0, 0), (None, 3))))
        answer = part(Hand("ab", [], []), Hand("ab", [], [0]))
        self.assertEqual((answer.same, answer.row, answer.holder), (False, (), 1))

    def test_states_as_they_were_made(self):
        one = Hand("ab", [(0, "a", "a", 0, 7), (7, "a", "a", 0, 0)], [0, 7])
        two = Hand("ab", [(0, "a", "a", 0, 0)], [0])
        self.assertEqual(part(one, two).table, ((0, 0), (7, 0)))

    def test_alphabets_differ(self):
        one, two = Hand.faithful("ab"), Hand.faithful("abc")
        for act in (lambda: part(one, two), lambda: is_parting_table(one, two, [])):
            with self.assertRaises(AlphabetsDiffer) as caught:
                act()
            self.assertEqual((caught.exception.one, caught.exception.two), ("ab", "abc"))


class PartingTableTest(unittest.TestCase):
    def setUp(self):
        self.one = Hand("ab", [(0, "a", "a", 0, 7), (7, "a", "a", 0, 0), (7, "b", "", 1, 9), (0, "b", "", 1, 9)], [0, 7])
        self.two = Hand("ab", [(0, "a", "a", 0, 0)], [0])
        self.table = part(self.one, self.two).table

    def test_needs_each_pair(self):
        self.assertEqual(self.table, ((0, 0), (7, 0), (9, None)))
        self.assertIs(is_parting_table(self.one, self.two, self.table), True)
        for at in range(len(self.table)):
            self.assertIs(is_parting_table(self.one, self.two, self.table[:at] + self.table[at + 1:]), False)
        self.assertIs(is_parting_table(self.one, self.two, ()), False)

    def test_order_repetition_and_lists(self):
        passed = lists_of(tuple(reversed(self.table)) + self.table)
        self.assertIs(is_parting_table(self.one, self.two, passed), True)
        self.assertEqual(passed, lists_of(tuple(reversed(self.table)) + self.table))

    def test_more_pairs(self):
        self.assertIs(is_parting_table(self.one, self.two, self.table + ((None, None),)), True)
        self.assertIs(is_parting_table(self.one, self.two, self.table + ((9, 0),)), False)
        self.assertIs(is_parting_table(self.one, self.two, self.table + ((None, 0),)), False)
        self.assertIs(is_parting_table(self.one, self.two, self.table + ((0, None),)), False)
        three = Hand("ab", [(0, "a", "a", 0, 0), (5, "a", "a", 0, 6)], [0])
        more = self.table + ((9, 6),)
        self.assertIs(is_parting_table(self.one, three, more), True)
        # No row leads to (9, 5), but it must go on all the same.
        self.assertIs(is_parting_table(self.one, three, self.table + ((9, 5),)), False)
        self.assertIs(is_parting_table(self.one, three, self.table + ((9, 5), (None, 6))), True)

    def test_different_hands_have_no_table(self):
        two = Hand("ab", [(0, "a", "a", 0, 1)], [0, 1])
        pairs = [(left, right) for left in (0, 7, 9, None) for right in (0, 1, None)]
        for size in range(1, 5):
            for table in itertools.combinations(pairs, size):
                self.assertIs(is_parting_table(self.one, two, table), False)

    def test_rows_of_a_dead_state(self):
        self.assertEqual(rows_of(self.one.rules, self.one.ends, 2), rows_of(self.two.rules, self.two.ends, 2))

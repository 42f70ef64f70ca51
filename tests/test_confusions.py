import itertools
import unittest

from firsthand.confusions import confusion, is_confusion_table
from firsthand.hands import Hand
from tests.brute import copy_of, exemplar_of, lists_of, only_tuples
from tests.test_hands import let_rows, random_hands


def confused_rows(hand, longest):
    """Whether two rows with at most so many strokes have one copy and two exemplars."""
    told = {}
    for row in let_rows(hand, longest):
        if told.setdefault(copy_of(row), exemplar_of(row)) != exemplar_of(row):
            return True
    return False


def ahead(one, two):
    if one.startswith(two):
        return (one[len(two):], "")
    if two.startswith(one):
        return ("", two[len(one):])
    return None


def twins_of(hand, longest):
    """All twins of rows of which each was continued in turn, without regard to whether they can be joined."""
    rows = [((), 0)]
    for row, state in rows:
        if len(row) < longest:
            rows.extend(((*row, rule[1:4]), rule[4]) for rule in hand.rules if rule[0] == state)
    found = {}
    for (one, p), (two, q) in itertools.product(rows, rows):
        copies, texts = ahead(copy_of(one), copy_of(two)), ahead(exemplar_of(one), exemplar_of(two))
        if copies is not None and texts is not None:
            found.setdefault((p, q, copies, texts), []).append((one, two))
    return found


class ConfusionTest(unittest.TestCase):
    def check_confused(self, hand, answer):
        self.assertIs(answer.tells, False)
        self.assertEqual(answer.table, ())
        self.assertTrue(only_tuples((answer.one, answer.two)))
        self.assertTrue(hand.lets(answer.one) and hand.lets(answer.two))
        self.assertEqual(copy_of(answer.one), copy_of(answer.two))
        self.assertNotEqual(exemplar_of(answer.one), exemplar_of(answer.two))

    def check_telling(self, hand, answer):
        self.assertEqual((answer.tells, answer.one, answer.two), (True, None, None))
        self.assertTrue(only_tuples(answer.table))
        self.assertEqual(len(set(answer.table)), len(answer.table))
        self.assertIs(is_confusion_table(hand, answer.table), True)
        for at in range(len(answer.table)):
            self.assertIs(is_confusion_table(hand, answer.table[:at] + answer.table[at + 1:]), False)

    def test_random_hands(self):
        told = {True: 0, False: 0}
        for more in ({"rules": 3}, {"rules": 4, "longest": 3}, {"rules": 5, "longest": 3, "states": 4}, {"rules": 2}):
            for hand in random_hands(60, 120, **more):
                answer = confusion(hand)
                told[answer.tells] += 1
                if answer.tells:
                    self.assertFalse(confused_rows(hand, 5), hand.rules)
                    self.check_telling(hand, answer)
                else:
                    self.check_confused(hand, answer)
        self.assertGreater(min(told.values()), 100)

    def test_faithful_and_merging_hands(self):
        answer = confusion(Hand.faithful("ab"))
        self.assertEqual(sorted(answer.table), [
            (0, 0, ("", ""), ("", "")), (0, 0, ("", "a"), ("", "a")), (0, 0, ("", "b"), ("", "b")),
            (0, 0, ("a", ""), ("a", "")), (0, 0, ("b", ""), ("b", "")),
        ])
        for fault in (("mistake", "a", "b", 1), ("omit", "b", 1), ("merge", "ab", 2), ("leap", "a", 3)):
            hand = Hand.of_faults("ab", [fault], limit=1)
            self.check_confused(hand, confusion(hand))

    def test_no_row_and_one_row(self):
        answer = confusion(Hand("ab", [(0, "a", "a", 0, 1)], []))
        self.assertEqual((answer.tells, answer.table), (True, ()))
        self.assertIs(is_confusion_table(Hand("ab", [], []), ()), True)
        answer = confusion(Hand("ab", [], [0]))
        self.assertEqual((answer.tells, answer.table), (True, ((0, 0, ("", ""), ("", "")),)))
        self.assertIs(is_confusion_table(Hand("ab", [], [0]), ()), False)

    def test_a_code_that_is_read_late(self):
        # The copy tells by its end only whether the first stroke was of "a" or "b".
        rules = [(0, "a", "a", 0, 1), (1, "a", "aa", 0, 1), (0, "b", "aa", 0, 2), (2, "a", "aa", 0, 2)]
        answer = confusion(Hand("ab", rules, [1, 2]))
        self.check_telling(Hand("ab", rules, [1, 2]), answer)
        rules[3] = (2, "a", "a", 0, 2)
        self.check_confused(Hand("ab", rules, [1, 2]), confusion(Hand("ab", rules, [1, 2])))

    def test_table_has_the_twins_that_are_reached(self):
        for hand in random_hands(61, 40, states=2, rules=3):
            answer = confusion(hand)
            if answer.tells:
                twins = twins_of(hand, 4)
                for twin in answer.table:
                    if len(twin[3][0]) + len(twin[3][1]) < 3:
                        self.assertIn(twin, twins)

    def test_dead_states_do_not_count(self):
        hand = Hand("ab", [(0, "a", "a", 0, 0), (0, "b", "a", 0, 5)], [0])
        self.assertEqual(len(confusion(hand).table), 3)
        self.assertIs(confusion(hand).tells, True)


class ConfusionTableTest(unittest.TestCase):
    def setUp(self):
        self.hand = Hand("ab", [(0, "a", "ab", 0, 1), (1, "b", "b", 0, 0), (0, "b", "", 1, 7)], [0])
        self.table = confusion(self.hand).table

    def test_order_repetition_and_lists(self):
        passed = lists_of(tuple(reversed(self.table)) + self.table)
        before = lists_of(passed)
        self.assertIs(is_confusion_table(self.hand, passed), True)
        self.assertEqual(passed, before)

    def test_uneven_end(self):
        self.assertIs(is_confusion_table(self.hand, self.table + ((0, 0, ("", ""), ("a", "")),)), False)

    def test_more_twins(self):
        # From state 7 nothing can be joined, so nothing is asked of such a twin.
        self.assertIs(is_confusion_table(self.hand, self.table + ((7, 0, ("", ""), ("", "b")),)), True)
        self.assertIs(is_confusion_table(self.hand, self.table + ((1, 1, ("bbb", ""), ("", "")),)), True)
        # This one can be joined, but its continuations are missing.
        self.assertIs(is_confusion_table(self.hand, self.table + ((1, 1, ("", ""), ("a", "")),)), False)
        # The second row is joined by reading "b", the exemplars then part.
        self.assertIs(is_confusion_table(self.hand, self.table + ((0, 1, ("b", ""), ("a", "")),)), False)
        self.assertIs(is_confusion_table(self.hand, self.table + ((0, 1, ("b", ""), ("b", "")),)), True)

    def test_long_texts_ahead(self):
        twin = (0, 0, ("abb" * 5, ""), ("ab" * 5, ""))
        self.assertIs(is_confusion_table(self.hand, self.table + (twin,)), False)
        more = [twin]
        for at in range(1, 11):
            copy = ("abb" * 5)[at // 2 * 3 + (at % 2) * 2:]
            more.append((0, at % 2, (copy, ""), (("ab" * 5)[at:], "")))
        self.assertIs(is_confusion_table(self.hand, self.table + tuple(more)), True)

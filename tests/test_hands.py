import itertools
import random
import unittest

from firsthand.cuttings import cutting_row, cuttings
from firsthand.errors import AlphabetsDiffer, BadAlphabet, BadFault, BadRule
from firsthand.hands import Hand, least
from tests.brute import all_texts, copy_of, exemplar_of, lists_of, only_tuples, random_rules, row_key, rows_of, stroke_key
from tests.test_cuttings import FAULTS


def random_hands(seed, count, alphabet="ab", **more):
    rand = random.Random(seed)
    return [Hand(alphabet, *random_rules(rand, alphabet, **more)) for _ in range(count)]


def let_rows(hand, longest):
    return rows_of(hand.rules, hand.ends, longest)


def is_least(hand):
    """Point 26 word by word, with all rows that are long enough."""
    states = sorted({0} | {rule[0] for rule in hand.rules} | {rule[4] for rule in hand.rules} | set(hand.ends))
    if not hand.rules and not hand.ends:
        return True
    if states != list(range(len(states))):
        return False
    reached = {}
    for row in rows_of(hand.rules, states, len(states)):
        reached.setdefault(hand.state_after(row), len(reached))
    if [reached.get(state) for state in states] != states:
        return False
    langs = []
    for state in states:
        moved = [(*move(rule[0], state), *rule[1:4], move(rule[4], state)[0]) for rule in hand.rules]
        langs.append(tuple(rows_of(moved, [move(end, state)[0] for end in hand.ends], len(states))))
    return all(langs) and len(set(langs)) == len(langs)


def move(state, start):
    """The states with 0 and the start exchanged."""
    return ({0: start, start: 0}.get(state, state),)


class CreationTest(unittest.TestCase):
    def test_fields(self):
        rules = [(7, "b", "", 0, 0), (0, "b", "a", 2, 7), (0, "a", "bb", 0, 0), (0, "a", "b", 3, 7), (0, "b", "a", 2, 7),
                 (0, "a", "b", 0, 3), (0, "a", "", 9, 0)]
        for passed in (rules, tuple(rules), lists_of(rules)):
            hand = Hand("ab", passed, [7, 0, 7, 12])
            self.assertEqual(hand.alphabet, "ab")
            self.assertEqual(hand.rules, (
                (0, "a", "", 9, 0), (0, "a", "b", 0, 3), (0, "a", "b", 3, 7), (0, "a", "bb", 0, 0), (0, "b", "a", 2, 7),
                (7, "b", "", 0, 0),
            ))
            self.assertEqual(hand.ends, (0, 7, 12))
            self.assertTrue(only_tuples(hand.rules))
            self.assertTrue(only_tuples(hand.ends))

    def test_strokes(self):
        hand = Hand("ab", [(3, "b", "", 0, 0), (0, "b", "aa", 0, 1), (1, "b", "", 0, 1), (2, "a", "b", 0, 0)], [])
        self.assertEqual(hand.strokes, (("a", "b", 0), ("b", "", 0), ("b", "aa", 0)))
        self.assertEqual(Hand("ab", [], [0]).strokes, ())
        hand = Hand("ab", [(0, "a", block, cost, 0) for block in ("b", "ab", "", "aa") for cost in (10, 9)], [])
        self.assertEqual(list(hand.strokes), sorted(hand.strokes, key=stroke_key))

    def test_bad_alphabet_comes_first(self):
        with self.assertRaises(BadAlphabet) as caught:
            Hand("ba", [(0, "c", "c", 0, 0)], [])
        self.assertEqual(caught.exception.alphabet, "ba")

    def test_bad_rule(self):
        good = (0, "a", "b", 1, 0)
        cases = [
            ([(0, "c", "", 0, 0)], 0), ([good, (0, "", "", 0, 0)], 1), ([good, (0, "ab", "", 0, 0)], 1),
            ([good, (0, "A", "", 0, 0)], 1), ([good, (1, "a", "c", 0, 0)], 1), ([good, (1, "a", "a b", 0, 0)], 1),
            ([good, good, (0, "a", "b", 1, 1)], 2), ([good, (0, "a", "b", 1, 2), (0, "c", "", 0, 0)], 1),
            ([good, (1, "a", "b", 1, 1), (0, "a", "b", 2, 1), (0, "a", "", 1, 1), (0, "b", "b", 1, 1)], None),
            ([good, (1, "a", "b", 1, 1), (1, "a", "b", 1, 0)], 2),
        ]
        for rules, index in cases:
            for passed in (rules, lists_of(rules)):
                if index is None:
                    self.assertEqual(len(Hand("ab", passed, []).rules), len(rules))
                    continue
                with self.assertRaises(BadRule) as caught:
                    Hand("ab", passed, [])
                self.assertEqual(caught.exception.index, index, rules)

    def test_later_changes_of_the_arguments(self):
        rules, ends = [[0, "a", "b", 1, 0]], [0]
        hand = Hand("ab", rules, ends)
        self.assertEqual((rules, ends), ([[0, "a", "b", 1, 0]], [0]))
        rules[0][1] = "b"
        ends.append(1)
        self.assertEqual((hand.rules, hand.ends), (((0, "a", "b", 1, 0),), (0,)))
        self.assertIs(hand.lets([("a", "b", 1)]), True)

    def test_sixty_rules(self):
        rules = [(state, letter, "abcdef", 99, (state + 1) % 20) for state in range(20) for letter in "abc"]
        hand = Hand("abcdef", rules, [0])
        self.assertEqual(len(hand.rules), 60)
        self.assertIs(hand.lets([("b", "abcdef", 99)] * 40), True)
        self.assertIs(hand.lets([("b", "abcdef", 99)] * 39), False)


class RowsTest(unittest.TestCase):
    def setUp(self):
        self.hand = Hand("ab", [(0, "a", "b", 1, 4), (4, "b", "", 0, 9), (9, "b", "", 0, 9)], [9, 15])

    def test_state_after(self):
        rows = [(), [("a", "b", 1)], [["a", "b", 1], ["b", "", 0]], (("a", "b", 1), ("b", "", 0), ("b", "", 0))]
        self.assertEqual([self.hand.state_after(row) for row in rows], [0, 4, 9, 9])

    def test_no_state(self):
        for row in ([("a", "b", 0)], [("b", "", 0)], [("z", "b", 1)], [("a", "zz", 1)], [("a", "b", -1)], [("ab", "b", 1)],
                    [("a", "b", 1), ("a", "b", 1)], [("b", "", 0), ("a", "b", 1)]):
            self.assertIsNone(self.hand.state_after(row), row)
            self.assertIs(self.hand.lets(row), False)

    def test_lets(self):
        self.assertIs(self.hand.lets(()), False)
        self.assertIs(self.hand.lets([("a", "b", 1)]), False)
        self.assertIs(self.hand.lets([("a", "b", 1), ("b", "", 0)]), True)
        self.assertIs(Hand("ab", [], [0]).lets([]), True)
        self.assertIs(Hand("ab", [], []).lets([]), False)
        self.assertIs(Hand("ab", [], [3]).lets([]), False)

    def test_rows_are_not_changed(self):
        row = [["a", "b", 1], ["b", "", 0]]
        self.hand.lets(row)
        self.hand.state_after(row)
        self.assertEqual(row, [["a", "b", 1], ["b", "", 0]])


class LeastTest(unittest.TestCase):
    def test_no_row(self):
        for hand in (Hand("ab", [], []), Hand("ab", [(0, "a", "a", 0, 1)], []), Hand("ab", [(1, "a", "a", 0, 1)], [1])):
            self.assertEqual((least(hand).rules, least(hand).ends), ((), ()))

    def test_empty_row_alone(self):
        hand = least(Hand("ab", [(0, "a", "a", 0, 1)], [0, 5]))
        self.assertEqual((hand.rules, hand.ends), ((), (0,)))

    def test_gaps_and_numbering(self):
        hand = least(Hand("ab", [(0, "b", "", 0, 3), (0, "a", "b", 1, 17), (17, "a", "", 0, 3), (3, "b", "", 0, 8)], [8]))
        self.assertEqual(hand.rules, ((0, "a", "b", 1, 1), (0, "b", "", 0, 2), (1, "a", "", 0, 2), (2, "b", "", 0, 3)))
        self.assertEqual(hand.ends, (3,))

    def test_numbering_follows_the_order_of_strokes(self):
        rules = [(0, "a", "b", 0, 1), (0, "a", "aa", 0, 2), (0, "a", "b", 10, 3), (0, "a", "b", 9, 4), (0, "a", "", 50, 5)]
        rules += [(state, "a", "a", state, 0) for state in range(1, 6)]
        self.assertEqual(least(Hand("ab", rules, [0])).rules, (
            (0, "a", "", 50, 1), (0, "a", "b", 0, 2), (0, "a", "b", 9, 3), (0, "a", "b", 10, 4), (0, "a", "aa", 0, 5),
            (1, "a", "a", 5, 0), (2, "a", "a", 1, 0), (3, "a", "a", 4, 0), (4, "a", "a", 3, 0), (5, "a", "a", 2, 0),
        ))

    def test_made_hands_keep_their_rules(self):
        hand = Hand("ab", [(5, "a", "a", 0, 5)], [5])
        self.assertEqual((hand.rules, hand.ends), (((5, "a", "a", 0, 5),), (5,)))

    def test_random_hands(self):
        for hand in random_hands(26, 120):
            made = least(hand)
            self.assertEqual(let_rows(made, 4), let_rows(hand, 4))
            self.assertTrue(is_least(made), hand.rules)
            again = least(made)
            self.assertEqual((again.rules, again.ends), (made.rules, made.ends))


class OperatorsTest(unittest.TestCase):
    def pairs(self):
        hands = random_hands(27, 24, states=2)
        return list(itertools.product(hands, hands[:12]))

    def test_union_and_intersection(self):
        for one, two in self.pairs():
            left, right = let_rows(one, 3), let_rows(two, 3)
            either, both = one | two, one & two
            self.assertEqual(let_rows(either, 3), sorted({*left, *right}, key=row_key))
            self.assertEqual(let_rows(both, 3), [row for row in left if row in right])
            for made in (either, both):
                self.assertEqual((least(made).rules, least(made).ends), (made.rules, made.ends))

    def test_joining(self):
        for one, two in self.pairs():
            expected = set()
            after = {}
            for row in let_rows(two, 4):
                after.setdefault(exemplar_of(row), []).append(row)
            for row in let_rows(one, 2):
                for second in after.get(copy_of(row), []):
                    strokes, at = [], 0
                    for letter, block, cost in row:
                        part = second[at:at + len(block)]
                        at += len(block)
                        strokes.append((letter, copy_of(part), cost + sum(stroke[2] for stroke in part)))
                    expected.add(tuple(strokes))
            made = one >> two
            self.assertEqual(let_rows(made, 2), sorted(expected, key=row_key), (one.rules, two.rules))
            self.assertEqual((least(made).rules, least(made).ends), (made.rules, made.ends))

    def test_joining_leaves_a_choice_open(self):
        one = Hand("ab", [(0, "a", "a", 1, 1), (0, "a", "b", 1, 2), (1, "a", "a", 0, 3), (2, "b", "b", 0, 3)], [3])
        two = Hand("ab", [(0, "a", "b", 0, 0), (0, "b", "b", 0, 0)], [0])
        self.assertEqual((one >> two).rules, ((0, "a", "b", 1, 1), (1, "a", "b", 0, 2), (1, "b", "b", 0, 2)))

    def test_joining_with_the_faithful_hand(self):
        faithful = Hand.faithful("ab")
        for hand in random_hands(28, 30):
            made = least(hand)
            for joint in (hand >> faithful, faithful >> hand):
                self.assertEqual((joint.rules, joint.ends), (made.rules, made.ends))

    def test_equality(self):
        for one, two in self.pairs():
            self.assertIs(one == two, let_rows(one, 5) == let_rows(two, 5))
            self.assertIs(one != two, let_rows(one, 5) != let_rows(two, 5))
        self.assertIs(Hand("ab", [(0, "a", "a", 0, 1), (1, "a", "a", 0, 0)], [0, 1]) == Hand("ab", [(0, "a", "a", 0, 0)], [0]), True)
        self.assertIs(Hand("ab", [(1, "a", "a", 0, 1)], [1]) == Hand("ab", [], []), True)
        self.assertIs(Hand("ab", [], []) == Hand("abc", [], []), False)
        for value in (None, 0, "ab", ("ab", (), ())):
            self.assertIs(Hand("ab", [], []) == value, False)

    def test_alphabets_differ(self):
        one, two = Hand.faithful("ab"), Hand.faithful("abc")
        for act in (lambda: one | two, lambda: one & two, lambda: one >> two):
            with self.assertRaises(AlphabetsDiffer) as caught:
                act()
            self.assertEqual((caught.exception.one, caught.exception.two), ("ab", "abc"))


class MadeHandsTest(unittest.TestCase):
    def test_faithful(self):
        hand = Hand.faithful("abc")
        self.assertEqual(hand.rules, tuple((0, letter, letter, 0, 0) for letter in "abc"))
        self.assertEqual((hand.alphabet, hand.ends), ("abc", (0,)))
        with self.assertRaises(BadAlphabet) as caught:
            Hand.faithful("aa")
        self.assertEqual(caught.exception.alphabet, "aa")

    def test_example(self):
        self.assertEqual(Hand.of_faults("ab", [("mistake", "a", "b", 3)], limit=1).rules, (
            (0, "a", "a", 0, 0), (0, "a", "b", 3, 1), (0, "b", "b", 0, 0), (1, "a", "a", 0, 1), (1, "b", "b", 0, 1),
        ))

    def test_rows_of_cuttings(self):
        for faults in FAULTS:
            for limit in (None, 0, 1, 2, 9):
                hand = Hand.of_faults("ab", faults, limit=limit)
                expected = set()
                for exemplar in all_texts("ab", 5):
                    for cutting in cuttings("ab", faults, exemplar, limit=limit):
                        expected.add(cutting_row(faults, cutting))
                self.assertEqual(let_rows(hand, 5), sorted(expected, key=row_key), (faults, limit))
                made = least(hand)
                self.assertEqual((made.rules, made.ends), (hand.rules, hand.ends))

    def test_no_faults(self):
        for limit in (None, 0, 9):
            self.assertEqual(Hand.of_faults("abc", (), limit=limit).rules, Hand.faithful("abc").rules)

    def test_errors_of_faults(self):
        with self.assertRaises(BadAlphabet) as caught:
            Hand.of_faults("ba", [()])
        self.assertEqual(caught.exception.alphabet, "ba")
        with self.assertRaises(BadFault) as caught:
            Hand.of_faults("ab", [["omit", "a", 1], ["omit", "a", 0], []], limit=1)
        self.assertEqual(caught.exception.index, 1)

    def test_lists_of_faults(self):
        faults = lists_of(FAULTS[4])
        hand = Hand.of_faults("ab", faults)
        self.assertEqual(hand.rules, Hand.of_faults("ab", tuple(FAULTS[4])).rules)
        self.assertEqual(faults, lists_of(FAULTS[4]))
        self.assertTrue(only_tuples(hand.rules))

    def test_limited(self):
        for hand in random_hands(29, 40):
            for most in (0, 1, 2, 9):
                made = hand.limited(most)
                few = [row for row in let_rows(hand, 4) if len([stroke for stroke in row if stroke[2] >= 1]) <= most]
                self.assertEqual(let_rows(made, 4), few)
                self.assertEqual((least(made).rules, least(made).ends), (made.rules, made.ends))
        for most in (0, 5):
            self.assertEqual(Hand("ab", [], []).limited(most).ends, ())

    def test_limited_is_the_limit_of_faults(self):
        for faults in FAULTS:
            for most in (0, 1, 9):
                one, two = Hand.of_faults("ab", faults).limited(most), Hand.of_faults("ab", faults, limit=most)
                self.assertEqual((one.rules, one.ends), (two.rules, two.ends))

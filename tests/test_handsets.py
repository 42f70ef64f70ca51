import random
import unittest

from firsthand.errors import AlphabetsDiffer
from firsthand.handsets import copies, exemplars, is_total
from firsthand.hands import Hand
from firsthand.setasking import members, total_count
from firsthand.setmaking import everything, exactly, nothing, torn
from firsthand.textsets import TextSet
from tests.brute import all_texts, only_tuples, random_form, random_sets
from tests.test_hands import random_hands


def some_row(hand, read, text, side):
    """Whether a row has this copy (or exemplar) while the set reads the other side."""
    start = (0, read.state_after(""), 0)
    seen, work = {start}, [start]
    while work:
        state, here, at = work.pop()
        if here is None:
            continue
        if state in hand.ends and read.form[here][0] and at == len(text):
            return True
        for rule in hand.rules:
            reads, writes = (rule[1], rule[2]) if side == 0 else (rule[2], rule[1])
            if rule[0] == state and text.startswith(writes, at):
                there = here
                for letter in reads:
                    there = None if there is None else read.form[there][1][read.alphabet.index(letter)]
                after = (rule[4], there, at + len(writes))
                if after not in seen:
                    seen.add(after)
                    work.append(after)
    return False


class HandSetsTest(unittest.TestCase):
    def test_random_hands_and_sets(self):
        sets = [TextSet(*pair) for pair in random_sets(29, 12, most=3, widths=(2,))]
        for hand in random_hands(30, 25):
            for texts in sets:
                written, read = copies(hand, texts), exemplars(hand, texts)
                for text in all_texts("ab", 4):
                    self.assertEqual(text in written, some_row(hand, texts, text, 0))
                    self.assertEqual(text in read, some_row(hand, texts, text, 1))
                self.assertTrue(only_tuples(written.form))

    def test_ordinary(self):
        hand = Hand.of_faults("ab", [("omit", "b", 1), ("double", "a", 2)])
        self.assertEqual(list(members(copies(hand, exactly("ab", ["ab"])), longest=9)), ["a", "aa", "ab", "aab"])
        self.assertEqual(list(members(exemplars(hand, exactly("ab", ["aa"])), longest=2)), ["a", "aa", "ab", "ba"])
        self.assertIsNone(total_count(exemplars(hand, exactly("ab", [""]))))

    def test_long_blocks(self):
        hand = Hand("ab", [(0, "a", "ababab", 1, 0), (0, "b", "abaabb", 0, 1), (1, "a", "", 0, 0)], [0, 1])
        self.assertEqual(copies(hand, exactly("ab", ["aba"])), exactly("ab", ["abababababaabb"[:6] + "abaabb"]))
        self.assertEqual(exemplars(hand, exactly("ab", ["abaabb"])), exactly("ab", ["b", "ba"]))

    def test_nothing(self):
        hand = Hand.faithful("ab")
        for make in (copies, exemplars):
            self.assertTrue(make(hand, nothing("ab")).is_empty)
            self.assertTrue(make(Hand("ab", [], []), everything("ab")).is_empty)
            self.assertEqual(make(Hand("ab", [], [0]), everything("ab")), exactly("ab", [""]))
            self.assertEqual(make(hand, torn("ab", "a*")), torn("ab", "a*"))

    def test_alphabets_differ(self):
        for make in (copies, exemplars):
            with self.assertRaises(AlphabetsDiffer) as caught:
                make(Hand.faithful("ab"), everything("abc"))
            self.assertEqual((caught.exception.one, caught.exception.two), ("ab", "abc"))

    def test_is_total(self):
        self.assertIs(is_total(Hand.faithful("abc")), True)
        self.assertIs(is_total(Hand("ab", [(0, "a", "a", 0, 0)], [0])), False)
        self.assertIs(is_total(Hand("ab", [(0, "a", "a", 0, 0), (0, "b", "", 3, 0)], [0])), True)
        self.assertIs(is_total(Hand("ab", [], [])), False)
        self.assertIs(is_total(Hand("ab", [(0, "a", "a", 0, 0), (0, "b", "", 3, 1), (1, "a", "", 0, 0), (1, "b", "", 0, 1)], [0])), False)
        two_ways = [(0, "a", "", 0, 1), (0, "b", "", 0, 1), (0, "a", "b", 0, 0), (0, "b", "b", 0, 0)]
        self.assertIs(is_total(Hand("ab", two_ways, [0])), True)
        self.assertIs(is_total(Hand("ab", two_ways, [1])), False)
        for hand in random_hands(31, 60, rules=9):
            texts = exemplars(hand, everything("ab"))
            self.assertIs(is_total(hand), all(text in texts for text in all_texts("ab", 8)))

    def test_random_forms_of_three_letters(self):
        rand = random.Random(32)
        for hand in random_hands(33, 10, alphabet="abc", rules=8):
            texts = TextSet("abc", random_form(rand, 3, 4, gaps=0.1))
            for text in all_texts("abc", 3):
                self.assertEqual(text in copies(hand, texts), some_row(hand, texts, text, 0))

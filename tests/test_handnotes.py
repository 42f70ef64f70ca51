"""Points 99 and 101."""

import random
import unittest

from firsthand.handnotes import format_hand, parse_hand
from firsthand.hands import Hand
from tests.brute import random_rules
from tests.notes import bad_line, check_changes

FAITHFUL = Hand.faithful("ab")
FAULTY = Hand.of_faults("ab", [("omit", "ab", 1), ("double", "a", 99)], limit=1)
HANDS = [FAITHFUL, FAULTY, Hand("a", [], []), Hand("ab", [], [0, 19]), Hand("xyz", [(19, "y", "xyzxyz", 99, 0)], [3, 1, 3])]


def made(rand):
    alphabet = rand.choice(["a", "ab", "bc"])
    rules, ends = random_rules(rand, alphabet, states=rand.randint(1, 20), rules=rand.randint(0, 20), longest=6, costs=(0, 1, 50, 99))
    return Hand(alphabet, rules, ends)


class FormatTest(unittest.TestCase):
    def test_forms(self):
        self.assertEqual(format_hand(FAITHFUL), "ab 0:a>a,0>0 0:b>b,0>0 / 0")
        self.assertEqual(format_hand(Hand("a", [], [])), "a /")
        self.assertEqual(format_hand(Hand("ab", [], [0, 19])), "ab / 0 19")
        self.assertEqual(format_hand(Hand("ab", [(3, "b", "", 12, 0), (0, "a", "ab", 0, 3)], [3])), "ab 0:a>ab,0>3 3:b>,12>0 / 3")
        # A hand that is not least keeps its states.
        self.assertEqual(format_hand(Hand("a", [(5, "a", "a", 0, 5)], [7])), "a 5:a>a,0>5 / 7")

    def test_there_and_back(self):
        rand = random.Random(101)
        for hand in HANDS + [made(rand) for _ in range(200)]:
            string = format_hand(hand)
            other = parse_hand(string)
            self.assertEqual((other.alphabet, other.rules, other.ends), (hand.alphabet, hand.rules, hand.ends))
            self.assertEqual(other, hand)
            self.assertEqual(format_hand(other), string)

    def test_bounds(self):
        hand = Hand("ab", [(19, "a", "ababab", 99, 19)], [19])
        self.assertEqual(parse_hand(format_hand(hand)).rules, hand.rules)
        rules = [(state, "a", block, 0, 0) for state in range(20) for block in ("", "a", "b")]
        self.assertEqual(parse_hand(format_hand(Hand("ab", rules, [0]))).rules, tuple(rules))


class ParseTest(unittest.TestCase):
    def test_what_is_no_written_form(self):
        wrong = [
            "", "ab", "ab ", "/", " /", "ab/", "ba /", "ab / ", "ab /0", "ab  /", " ab /", "ab /  0", "ab / 0 ", "ab / / 0", "ab / 00", "ab / +1",
            "ab / -1", "ab / x", "ab 0:a>a,0>0", "ab 0:a>a,0>0 0", "ab 0:c>a,0>0 /", "ab 0:a>c,0>0 /", "ab 0:>a,0>0 /", "ab 0:aa>a,0>0 /",
            "ab :a>a,0>0 /", "ab 0:a>a,>0 /", "ab 0:a>a,0> /", "ab 0:a>a>0 /", "ab 0:a>a,0,0>0 /", "ab 0:a>a,0>0>0 /", "ab 0a>a,0>0 /",
            "ab 0:a:a>a,0>0 /", "ab 00:a>a,0>0 /", "ab 0:a>a,00>0 /", "ab 0:a>a,0>01 /", "ab 0:a>a,+1>0 /", "ab -1:a>a,0>0 /", "ab 0:a>A,0>0 /",
            "ab 0:a>a,0>0  0:b>b,0>0 / 0", "ab 0:a>a, 0>0 /", "/ 0", "ab 0:a>a,0>0 / 0 / 1", "AB /", "ab 0 / 0",
        ]
        for string in wrong:
            self.assertEqual(bad_line(parse_hand, string), 0, string)

    def test_order_and_repetition(self):
        wrong = [
            "ab 0:b>b,0>0 0:a>a,0>0 / 0", "ab 1:a>a,0>0 0:a>a,0>0 /", "ab 0:a>aa,0>0 0:a>b,0>0 /", "ab 0:a>a,1>0 0:a>a,0>0 /",
            "ab 0:a>a,0>0 0:a>a,0>0 / 0", "ab 0:a>a,0>0 0:a>a,0>1 / 0", "ab / 1 0", "ab / 0 0",
        ]
        for string in wrong:
            self.assertEqual(bad_line(parse_hand, string), 0, string)
        self.assertIsNone(bad_line(parse_hand, "ab 0:a>b,0>0 0:a>aa,0>0 0:a>aa,1>3 2:a>,0>0 / 0 1 7"))

    def test_beyond_the_bounds(self):
        wrong = ["ab 20:a>a,0>0 /", "ab 0:a>a,0>20 /", "ab / 20", "ab 0:a>a,100>0 /", "ab 0:a>abababa,0>0 /", "ab / 999999999"]
        rules = [(state, "a", block, 0, 0) for state in range(20) for block in ("", "a", "b")] + [(19, "b", "", 0, 0)]
        for string in wrong + [format_hand(Hand("ab", rules, [0]))]:
            self.assertEqual(bad_line(parse_hand, string), 0, string)

    def test_more_lines(self):
        good = format_hand(FAITHFUL)
        for string in (good + "\n", good + "\n" + good, "ab /\n\n", "a /\n "):
            self.assertEqual(bad_line(parse_hand, string), 1, string)
        for string in ("\n" + good, "ab\n/", "\n"):
            self.assertEqual(bad_line(parse_hand, string), 0, string)

    def test_changed_strings(self):
        rand = random.Random(1010)
        strings = [format_hand(hand) for hand in HANDS + [made(rand) for _ in range(20)]]
        check_changes(self, 101, strings, parse_hand, format_hand)


if __name__ == "__main__":
    unittest.main()

"""Points 99 and 102."""

import random
import unittest

from firsthand.families import Family
from firsthand.familynotes import format_family, parse_family
from firsthand.hands import Hand
from firsthand.setmaking import exactly, nothing, torn
from tests.notes import bad_line, check_changes
from tests.worlds import random_family

FAITHFUL = Hand.faithful("ab")
WRITTEN = "ab 0:a>a,0>0 0:b>b,0>0 / 0"
FAMILY = Family("ab").copied("x", "first", FAITHFUL).joined("y1", "x", "first", most=0, cost=0).conflated("any", "y1", "y1", cost=99)
FAMILY = FAMILY.corrected("z", "any", "x", most=9).found("z", nothing("ab")).found("first", exactly("ab", ["ab"]))
LINES = [
    "letters ab", "copied x first " + WRITTEN, "joined y1 x first 0 0", "conflated any y1 y1 any 99", "corrected z any x 9 1",
    "kept first ab -1,. -.,2 +.,.", "kept z ab",
]


class FormatTest(unittest.TestCase):
    def test_forms(self):
        self.assertEqual(format_family(FAMILY).split("\n"), LINES)
        self.assertEqual(format_family(Family("abcdef")), "letters abcdef")
        self.assertEqual(format_family(Family("a").found("first", exactly("a", [""]))), "letters a\nkept first a +.")

    def test_there_and_back(self):
        rand = random.Random(102)
        for family in [FAMILY, Family("z")] + [random_family(rand, copies=4) for _ in range(100)]:
            string = format_family(family)
            other = parse_family(string)
            self.assertEqual(other, family)
            self.assertEqual(format_family(other), string)
            for name in family.made:
                if family.making(name)[0] == "copied":
                    self.assertEqual(other.making(name)[2].rules, family.making(name)[2].rules)
                    self.assertEqual(other.making(name)[2].ends, family.making(name)[2].ends)

    def test_hands_keep_their_states(self):
        family = Family("ab").copied("x", "first", Hand("ab", [(0, "a", "a", 0, 7), (7, "a", "a", 0, 0)], [0, 7]))
        self.assertEqual(parse_family(format_family(family)).making("x")[2].ends, (0, 7))


class ParseTest(unittest.TestCase):
    def refused(self, line, *lines):
        self.assertEqual(bad_line(parse_family, "\n".join(lines)), line, lines)

    def test_every_beginning_is_a_written_form(self):
        for count in range(1, len(LINES) + 1):
            self.assertIsNone(bad_line(parse_family, "\n".join(LINES[:count])))

    def test_first_line(self):
        for line in ("", "letters", "letters ", "letters ba", "letters  ab", " letters ab", "letters ab ", "ab", "Letters ab", "letters a b", "letters abcdefg"):
            self.refused(0, line)
            self.refused(0, line, *LINES[1:])

    def test_copies(self):
        wrong = [
            "", "copied", "copied x", "copied x first", "copied x first ", "copied x first ab", "copied x first " + WRITTEN + " ", "copied  x first " + WRITTEN,
            "copied x first  " + WRITTEN, " copied x first " + WRITTEN, "copied X first " + WRITTEN, "copied x1234567y first " + WRITTEN,
            "copied 1x first " + WRITTEN, "copied first first " + WRITTEN, "copied x x " + WRITTEN, "copied x y " + WRITTEN, "copied x  " + WRITTEN,
            "copied x first abc / 0", "copied x first ab / 20", "Copied x first " + WRITTEN, "found x " + WRITTEN, "letters ab",
        ]
        for line in wrong:
            self.refused(1, "letters ab", line)
            self.refused(1, "letters ab", line, *LINES[1:])
        self.refused(2, *LINES[:2], LINES[1])
        self.refused(2, *LINES[:2], "copied y z " + WRITTEN)
        self.refused(3, *LINES[:3], "copied x y1 " + WRITTEN)

    def test_meetings(self):
        for kind in ("joined", "conflated", "corrected"):
            self.assertIsNone(bad_line(parse_family, f"letters ab\n{kind} x first first any 0"))
            wrong = [
                "x first first any", "x first first 1 1 1", "x first first 10 1", "x first first 01 1", "x first first -1 1", "x first first Any 1",
                "x first first None 1", "x first first 1 100", "x first first 1 01", "x first first 1 -1", "x first first 1 ", "x first first  1",
                "x first x 1 1", "x q first 1 1", "first first first 1 1", "X first first 1 1", "x first 1 1", "x first first 1 +1",
            ]
            for words in wrong:
                self.refused(1, "letters ab", f"{kind} {words}")
        self.refused(1, "letters ab", "joined")
        self.refused(2, *LINES[:2], "joined x first first 1 1")
        self.refused(3, *LINES[:3], "joining y2 x first 0 0")

    def test_kept(self):
        wrong = [
            "kept", "kept first", "kept first ", "kept first abc", "kept first a", "kept y ab", "kept  ab", "kept first ab ", "kept first ab -.,.",
            "kept  first ab", "kept first  ab", "Kept first ab", "kept first first ab", "kept ab", "kept first ba",
        ]
        for line in wrong:
            self.refused(1, "letters ab", line)

    def test_order_of_what_is_kept(self):
        head = LINES[:3]
        self.assertIsNone(bad_line(parse_family, "\n".join(head + ["kept first ab", "kept x ab", "kept y1 ab"])))
        self.refused(4, *head, "kept x ab", "kept first ab")
        self.refused(4, *head, "kept x ab", "kept x ab")
        self.refused(4, *head, "kept x ab +0,0", "kept x ab +0,0")
        self.refused(5, *head, "kept first ab", "kept y1 ab", "kept x ab")
        self.refused(4, *head, "kept first ab +0,0", LINES[3])
        self.refused(4, *head, "kept y1 ab", "")

    def test_ninth_copy(self):
        lines = ["letters ab"] + [f"joined c{number} first first any 1" for number in range(9)]
        self.assertIsNone(bad_line(parse_family, "\n".join(lines[:9])))
        self.refused(9, *lines)
        self.refused(9, *lines[:9], "copied c8 first " + WRITTEN)
        self.assertIsNone(bad_line(parse_family, "\n".join(lines[:9] + ["kept c7 ab"])))

    def test_empty_lines(self):
        self.refused(0, "")
        self.refused(0, "", "letters ab")
        self.refused(1, "letters ab", "")
        for at in range(1, len(LINES) + 1):
            self.refused(at, *LINES[:at], "", *LINES[at:])

    def test_changed_strings(self):
        rand = random.Random(1020)
        strings = [format_family(family) for family in [FAMILY] + [random_family(rand) for _ in range(25)]]
        check_changes(self, 102, strings, parse_family, format_family)


if __name__ == "__main__":
    unittest.main()

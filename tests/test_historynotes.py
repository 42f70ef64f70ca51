"""Points 99 and 103."""

import unittest

from firsthand.historynotes import format_history, parse_history
from tests.brute import lists_of, only_tuples
from tests.notes import bad_line, check_changes
from tests.worlds import as_history, looked_at, random_worlds

HISTORY = ("ab", (((("aa", 2),), 1, ()), ((("", 0), ("zz", 99)), 0, (("a", 10),))))
STRING = "a aa,2 1 -\nb ,0/zz,99 0 a,10"
HISTORIES = [
    HISTORY, ("", ()), ("z", ((),)), ("zz", ((), ())), ("ab", (((),), (0,))), ("a", (((("", 0),),),)), ("a", ((0, 1, 0, 1, 0, 1, 0, 1),)),
    ("q", (((("a" * 36, 99),) * 20,),)), ("a" * 300, ((1,),) * 300),
]


class FormatTest(unittest.TestCase):
    def test_forms(self):
        self.assertEqual(format_history(HISTORY), STRING)
        self.assertEqual(format_history(lists_of(HISTORY)), STRING)
        self.assertEqual(format_history(("", ())), "")
        self.assertEqual(format_history(("ba", ((), ()))), "b\na")
        self.assertEqual(format_history(("a", [[[["", 0]], []]])), "a ,0 -")

    def test_there_and_back(self):
        for history in HISTORIES:
            string = format_history(history)
            self.assertEqual(parse_history(string), history)
            self.assertTrue(only_tuples(parse_history(string)))
        self.assertEqual(len({format_history(history) for history in HISTORIES}), len(HISTORIES))

    def test_histories_of_families(self):
        many = 0
        for family, _, _ in random_worlds(103, 80):
            for was in looked_at(family, 3)[:40]:
                self.assertEqual(parse_history(format_history(as_history(was))), as_history(was))
                many += 1
        self.assertGreater(many, 300)


class ParseTest(unittest.TestCase):
    def refused(self, line, *lines):
        self.assertEqual(bad_line(parse_history, "\n".join(lines)), line, lines)

    def test_a_side_in_one_line_and_strokes_in_another(self):
        self.assertEqual(parse_history("a 0\nb -\nc z,1"), ("abc", ((0,), ((),), ((("z", 1),),))))

    def test_what_cannot_stand_there(self):
        wrong = [
            "A", "ab", " ", " a", "a ", "a  0", "0", "-", "a 2", "a 00", "a +1", "a --", "a ,", "a a", "a a,", "a a,01", "a a,-1", "a a,+1",
            "a a,100", "a A,1", "a a,1/", "a /a,1", "a a,1//a,1", "a a,1/-", "a a,1/0", "a a,1,1", "a a,1 ", "a a, 1", "a .,1", "a a,x", "a a;1",
            "a a,999999999", "a " + "a" * 37 + ",1", "a" + " 0" * 9, "1",
        ]
        for line in wrong:
            self.refused(0, line)
            self.refused(0, line, "a")
            self.refused(1, "b" + " 0" * (len(line.split(" ")) - 1), line) if len(line.split(" ")) < 10 else None

    def test_equally_many_entries(self):
        self.refused(1, "a 0", "b 0 0")
        self.refused(1, "a 0", "b")
        self.refused(1, "a", "b 0")
        self.refused(2, "a 0 1", "b - 0", "c 0")
        self.assertIsNone(bad_line(parse_history, "a 0 1\nb - 0\nc 0 a,1/b,2"))

    def test_empty_lines(self):
        self.assertEqual(parse_history(""), ("", ()))
        self.refused(1, "", "")
        self.refused(1, "", "a")
        self.refused(1, "", "", "a")
        self.refused(1, "a", "")
        self.refused(1, "a", "", "b")
        self.refused(2, "a 0", "b 1", "")

    def test_changed_strings(self):
        check_changes(self, 103, [format_history(history) for history in HISTORIES[:-1]] * 4, parse_history, format_history)


if __name__ == "__main__":
    unittest.main()

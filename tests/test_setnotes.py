"""Points 99 and 100."""

import unittest

from firsthand.errors import BadNotation
from firsthand.setmaking import counting, everything, exactly, lengths, nothing, torn
from firsthand.setnotes import format_set, parse_set
from firsthand.textsets import TextSet
from tests.brute import random_sets
from tests.notes import bad_line, check_changes

SETS = [exactly("ab", ["ab"]), nothing("ab"), nothing("z"), everything("abc"), everything("a"), torn("acz", "a*?z"), lengths("abcdef", 2, None)]
SETS += [counting("ab", "b", 3, 12), lengths("a", 20, 40), exactly("ab", [""])]


class FormatTest(unittest.TestCase):
    def test_forms(self):
        self.assertEqual(format_set(exactly("ab", ["ab"])), "ab -1,. -.,2 +.,.")
        self.assertEqual(format_set(nothing("ab")), "ab")
        self.assertEqual(format_set(everything("abc")), "abc +0,0,0")
        self.assertEqual(format_set(everything("a")), "a +0")
        self.assertEqual(format_set(exactly("z", ["", "z"])), "z +1 +.")
        self.assertEqual(format_set(TextSet("ab", [[True, [1, None]], [True, [0, None]]])), "ab +0,.")

    def test_there_and_back(self):
        made = [TextSet(alphabet, form) for alphabet, form in random_sets(100, 200, most=6)]
        for texts in SETS + made:
            string = format_set(texts)
            self.assertEqual(parse_set(string), texts)
            self.assertEqual(parse_set(string).alphabet, texts.alphabet)
            self.assertEqual(parse_set(string).form, texts.form)
            self.assertNotIn("\n", string)
        self.assertEqual(len({format_set(texts) for texts in SETS}), len(SETS))

    def test_sixty_states(self):
        texts = exactly("ab", ["ab" * 29 + "a"])
        self.assertEqual(len(texts.form), 60)
        self.assertEqual(parse_set(format_set(texts)), texts)


class ParseTest(unittest.TestCase):
    def test_what_is_no_written_form(self):
        wrong = [
            "", " ", "a b", "ba", "aa", "A", "abcdefg", "ab +", "ab -1,.", "ab +0", "ab +0,0,0", "ab +0,", "ab +,0", "ab 0,0", "ab *0,0",
            "ab +00,0", "ab ++0,0", "ab +-0,0", "ab ++0,+0", "ab +0,1", "ab +0, 0", "ab +0,x", "ab +0;0", "ab + 0,0", "ab +.. ", "ab +0,..",
            " ab +0,0", "ab  +0,0", "ab +0,0 ", "ab ", "+0,0", "ab+0,0", "ab +0,0 ab +0,0", "ab +1,1 +1,1", "ab +999999999,0", "a-b +0,0",
        ]
        for string in wrong:
            self.assertEqual(bad_line(parse_set, string), 0, string)

    def test_forms_that_are_not_least(self):
        wrong = [
            "ab -.,.", "ab -0,0", "ab -1,. -.,.", "ab +.,. +.,.", "ab +1,. +1,.", "ab -2,1 +.,. -.,1",
            "ab -2,. +.,. -.,1", "ab -1,2 +.,. +.,.", "ab -1,. -.,2 +.,. +.,.",
        ]
        for string in wrong:
            self.assertEqual(bad_line(parse_set, string), 0, string)
        self.assertIsNone(bad_line(parse_set, "ab -1,2 -.,2 +.,."))

    def test_more_lines(self):
        for string in ("ab\n", "ab +0,0\n", "ab +0,0\nab +0,0", "ab\n\n", "ab\n ", "ab +0,0\nx"):
            self.assertEqual(bad_line(parse_set, string), 1, string)
        for string in ("\n", "\nab", "ba\nab", "ab \nab", "ab +0\nab"):
            self.assertEqual(bad_line(parse_set, string), 0, string)

    def test_error(self):
        with self.assertRaises(BadNotation) as caught:
            parse_set("ab\n")
        self.assertEqual(vars(caught.exception), {"line": 1})

    def test_changed_strings(self):
        check_changes(self, 100, [format_set(texts) for texts in SETS], parse_set, format_set)


if __name__ == "__main__":
    unittest.main()

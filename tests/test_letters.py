import unittest

from firsthand.letters import is_alphabet, is_name, is_text, text_order
from tests.brute import all_texts


class LettersTest(unittest.TestCase):
    def test_alphabets(self):
        for value in ("a", "z", "az", "abcdef", "bdfhjl"):
            self.assertIs(is_alphabet(value), True, value)

    def test_no_alphabets(self):
        wrong = ("", "abcdefg", "aa", "ba", "abb", "aB", "A", "a b", " ", "a1", "1", "\u00e9", "a\n", "ab,", "abca", "`", "{")
        for value in wrong:
            self.assertIs(is_alphabet(value), False, value)

    def test_names(self):
        for value in ("a", "z", "first", "a1234567", "abcdefgh", "x0", "b9"):
            self.assertIs(is_name(value), True, value)

    def test_no_names(self):
        for value in ("", "abcdefghi", "1a", "A", "aB", "a b", "a_", "a-", "a\n", "\u00e9", "a\u0663", "a\u00b2", " a", "/"):
            self.assertIs(is_name(value), False, value)

    def test_texts(self):
        self.assertIs(is_text("abc", ""), True)
        self.assertIs(is_text("abc", "cabba"), True)
        self.assertIs(is_text("abc", "a" * 500), True)
        for value in ("d", "abd", "A", "a b", "ab ", "\n"):
            self.assertIs(is_text("abc", value), False, value)
        self.assertIs(is_text("ac", "b"), False)

    def test_text_order(self):
        texts = all_texts("abc", 4)
        self.assertEqual(sorted(reversed(texts), key=text_order), texts)
        self.assertEqual(sorted(["b", "ab", "", "aa", "a"], key=text_order), ["", "a", "b", "aa", "ab"])

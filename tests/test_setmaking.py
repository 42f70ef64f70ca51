import re
import unittest

from firsthand.errors import BadAlphabet, BadPattern, BadText
from firsthand.setmaking import containing, counting, everything, exactly, lengths, nothing, torn
from tests.brute import all_texts, only_tuples


def held(texts, longest=6):
    return [text for text in all_texts(texts.alphabet, longest) if text in texts]


class SetMakingTest(unittest.TestCase):
    def test_bad_alphabet_comes_first(self):
        calls = [
            lambda: nothing("ba"), lambda: everything("ba"), lambda: exactly("ba", ["x"]), lambda: torn("ba", "!"),
            lambda: containing("ba", "x"), lambda: counting("ba", "a", 0, 1), lambda: lengths("ba", 0, 0),
        ]
        for call in calls:
            with self.assertRaises(BadAlphabet) as caught:
                call()
            self.assertEqual(caught.exception.alphabet, "ba")

    def test_nothing_and_everything(self):
        self.assertEqual(nothing("abc").form, ())
        self.assertEqual(everything("abc").form, ((True, (0, 0, 0)),))

    def test_exactly(self):
        self.assertEqual(exactly("ab", ["ab"]).form, ((False, (1, None)), (False, (None, 2)), (True, (None, None))))
        self.assertEqual(held(exactly("ab", ("b", "", "abba", "b"))), ["", "b", "abba"])
        self.assertEqual(held(exactly("ab", [])), [])
        self.assertTrue(only_tuples(exactly("ab", ["a"]).form))
        many = ["a" * at + "b" * (200 - at) for at in range(20)]
        texts = exactly("ab", many)
        self.assertTrue(all(text in texts for text in many))
        self.assertNotIn("a" * 20 + "b" * 180, texts)

    def test_exactly_bad_text(self):
        for texts, index in ((["a", "c", "d"], 1), (["A"], 0), (["a", "b", "a b"], 2), (("ab", "ba", "", "a\n"), 3)):
            with self.assertRaises(BadText) as caught:
                exactly("ab", texts)
            self.assertEqual(caught.exception.index, index)

    def test_exactly_keeps_its_argument(self):
        passed = ["a", "b"]
        texts = exactly("ab", passed)
        self.assertEqual(passed, ["a", "b"])
        passed.append("ab")
        self.assertNotIn("ab", texts)

    def test_torn_example(self):
        self.assertEqual(["abba" in torn("ab", "a*?a"), "aa" in torn("ab", "a*?a")], [True, False])

    def test_torn(self):
        patterns = (
            "", "a", "?", "*", "**", "*a", "a*", "?*", "*?", "a?b", "*ab*", "*a*b*", "a*?a", "?a?", "*ab?*a", "*a?b",
            "*?*?*", "abab", "*aab*aa", "*a?a", "**a**", "?" * 6, "*" * 12, "*b*?a*", "a**b", "*a*aa?",
        )
        for pattern in patterns:
            shape = re.compile(pattern.replace("?", "[ab]").replace("*", "[ab]*"))
            texts = torn("ab", pattern)
            for text in all_texts("ab", 7):
                self.assertEqual(text in texts, shape.fullmatch(text) is not None, (pattern, text))

    def test_torn_of_three_letters(self):
        for pattern in ("*a?c", "c*b*", "?b*", "*ca*"):
            shape = re.compile(pattern.replace("?", "[abc]").replace("*", "[abc]*"))
            for text in all_texts("abc", 5):
                self.assertEqual(text in torn("abc", pattern), shape.fullmatch(text) is not None, (pattern, text))

    def test_torn_bad_pattern(self):
        cases = (("c", 0), ("a?*c*d", 3), ("A", 0), ("a b", 1), ("ab.", 2), ("\n", 0), ("*?!", 2), ("*[ab]", 1))
        for pattern, index in cases:
            with self.assertRaises(BadPattern) as caught:
                torn("ab", pattern)
            self.assertEqual(caught.exception.index, index)

    def test_torn_with_twelve_signs(self):
        texts = torn("ab", "*a" + "?" * 11)
        self.assertEqual(len(texts.form), 2 ** 12)
        self.assertIn("bbab" + "b" * 10, texts)
        self.assertNotIn("bbbb" + "b" * 10, texts)
        long = torn("abcdef", "a" * 94 + "?*" * 6 + "f" * 94)
        self.assertIn("a" * 94 + "bcdefa" + "f" * 94, long)
        self.assertNotIn("a" * 94 + "bcdef" + "f" * 94, long)

    def test_containing(self):
        for word in ("", "a", "ab", "aba", "aabaa", "abab"):
            texts = containing("ab", word)
            for text in all_texts("ab", 7):
                self.assertEqual(text in texts, word in text, (word, text))
        self.assertEqual(containing("ab", ""), everything("ab"))
        self.assertEqual(len(containing("ab", "ab" * 100).form), 201)

    def test_containing_bad_text(self):
        for word in ("c", "ac", "?", "*", "A", "a b"):
            with self.assertRaises(BadText) as caught:
                containing("ab", word)
            self.assertEqual(caught.exception.index, 0)

    def test_counting(self):
        for modulus in (1, 2, 3, 5):
            for rest in range(modulus):
                texts = counting("ab", "b", rest, modulus)
                for text in all_texts("ab", 7):
                    self.assertEqual(text in texts, text.count("b") % modulus == rest)
        self.assertEqual(len(counting("abc", "c", 11, 12).form), 12)
        self.assertEqual(counting("ab", "a", 0, 1), everything("ab"))

    def test_lengths(self):
        for least in range(5):
            for most in (None, 0, 1, 2, 3, 4, 5):
                texts = lengths("ab", least, most)
                for text in all_texts("ab", 6):
                    inside = len(text) >= least and (most is None or len(text) <= most)
                    self.assertEqual(text in texts, inside, (least, most, text))
        self.assertTrue(lengths("ab", 40, 39).is_empty)
        self.assertEqual(len(lengths("a", 40, 40).form), 41)
        self.assertEqual(len(lengths("a", 40, None).form), 41)
        self.assertEqual(lengths("ab", 0, None), everything("ab"))

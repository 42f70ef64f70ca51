import unittest

from firsthand.faults import is_fault, rewritten

GOOD = [
    ("mistake", "a", "b", 1), ("omit", "a", 99), ("omit", "abc", 1), ("double", "ab", 2), ("merge", "bca", 3),
    ("turn", "b", "a", 1), ("gloss", "a", "bcb", 1), ("gloss", "abc", "c", 1), ("leap", "c", 50),
]


class IsFaultTest(unittest.TestCase):
    def test_example(self):
        values = [("mistake", "a", "a", 1), ("omit", "ab", 1), ()]
        self.assertEqual([is_fault("ab", value) for value in values], [False, True, False])

    def test_faults(self):
        for value in GOOD:
            self.assertIs(is_fault("abc", value), True, value)

    def test_letters_of_the_alphabet(self):
        for value in GOOD:
            self.assertIs(is_fault("xyz", value), False, value)
        for value in (("mistake", "a", "c", 1), ("turn", "c", "a", 1), ("gloss", "a", "ac", 1), ("omit", "abc", 1)):
            self.assertIs(is_fault("ab", value), False, value)

    def test_costs(self):
        for value in GOOD:
            for cost in (0, 100, -1, 1000):
                self.assertIs(is_fault("abc", value[:-1] + (cost,)), False)
            for cost in (1, 99):
                self.assertIs(is_fault("abc", value[:-1] + (cost,)), True)

    def test_sizes(self):
        for value in GOOD:
            self.assertIs(is_fault("abc", value[:-1]), False)
            self.assertIs(is_fault("abc", value + (1,)), False)
            self.assertIs(is_fault("abc", value[:1]), False)

    def test_other_items_may_be_anything(self):
        for value in (("mistake",), ("slip", 1, None, [2]), ("omit", None), ("leap", ["a"], {}, 1), ("", 1), ("gloss", 1)):
            self.assertIs(is_fault("ab", value), False, value)

    def test_words(self):
        wrong = [
            ("omit", "", 1), ("omit", "aaaa", 1), ("double", "", 1), ("double", "abab", 1), ("merge", "", 1),
            ("merge", "aaaa", 1), ("gloss", "", "a", 1), ("gloss", "a", "", 1), ("gloss", "aaaa", "a", 1),
            ("gloss", "a", "aaaa", 1), ("omit", "a b", 1), ("omit", "A", 1),
        ]
        for value in wrong:
            self.assertIs(is_fault("ab", value), False, value)

    def test_letters(self):
        wrong = [
            ("mistake", "a", "a", 1), ("mistake", "", "a", 1), ("mistake", "a", "", 1), ("mistake", "ab", "a", 1),
            ("mistake", "a", "ab", 1), ("turn", "b", "b", 1), ("turn", "", "b", 1), ("turn", "ab", "b", 1),
            ("turn", "b", "ab", 1), ("leap", "", 1), ("leap", "ab", 1),
        ]
        for value in wrong:
            self.assertIs(is_fault("ab", value), False, value)


class RewrittenTest(unittest.TestCase):
    def test_example(self):
        leap = ("leap", "a", 2)
        answers = [rewritten(leap, "abca"), rewritten(leap, "abaca"), rewritten(("turn", "a", "b", 1), "ab")]
        self.assertEqual(answers, ["a", None, "ba"])

    def test_all_kinds(self):
        cases = [
            (("mistake", "a", "b", 1), "a", "b"), (("omit", "ab", 1), "ab", ""), (("double", "ab", 1), "ab", "abab"),
            (("merge", "ab", 1), "abab", "ab"), (("turn", "a", "c", 1), "ac", "ca"),
            (("gloss", "ab", "c", 1), "ab", "abc"), (("leap", "b", 1), "bb", "b"), (("leap", "b", 1), "baxcb", "b"),
        ]
        for fault, old, written in cases:
            self.assertEqual(rewritten(fault, old), written, fault)
            self.assertEqual(rewritten(list(fault), old), written, fault)

    def test_other_pieces(self):
        cases = [
            (("mistake", "a", "b", 1), ("b", "", "aa", "z")), (("omit", "ab", 1), ("", "a", "aba", "ba", "abab")),
            (("double", "ab", 1), ("abab", "", "a")), (("merge", "ab", 1), ("ab", "", "ababab", "aabb")),
            (("turn", "a", "c", 1), ("ca", "a", "", "acac")), (("gloss", "ab", "c", 1), ("abc", "", "a")),
            (("leap", "b", 1), ("b", "", "ab", "ba", "bbb", "babab", "aa", "bab ")),
        ]
        for fault, pieces in cases:
            for old in pieces:
                self.assertIsNone(rewritten(fault, old), (fault, old))

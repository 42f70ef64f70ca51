import itertools
import unittest

from firsthand.errors import AlphabetsDiffer, BadAlphabet, BadForm
from firsthand.setmaking import everything, exactly, lengths, nothing, torn
from firsthand.textsets import TextSet
from tests.brute import accepts, all_texts, lists_of, only_tuples, random_sets, read_form


class CreationTest(unittest.TestCase):
    def test_fields_are_least(self):
        texts = TextSet("ab", [[False, [1, 2]], [True, [None, 3]], [True, [None, None]], [False, [3, None]]])
        self.assertEqual(texts.alphabet, "ab")
        self.assertEqual(texts.form, ((False, (1, 1)), (True, (None, None))))

    def test_bad_alphabet_comes_first(self):
        for alphabet in ("", "ba", "abcdefg", "aa", "A"):
            with self.assertRaises(BadAlphabet) as caught:
                TextSet(alphabet, ((True, ()),))
            self.assertEqual(caught.exception.alphabet, alphabet)

    def test_bad_form(self):
        cases = [
            (((True, (0,)),), 0), (((True, (0, 0, 0)),), 0), (((True, ()),), 0),
            (((True, (0, 1)), (True, (0, 2))), 1), (((True, (0, -1)),), 0),
            (((True, (0, True)), (True, (0, 0))), 0), (((True, (0, 0)), (True, (False, 0))), 1),
            (((True, (None, "a")),), 0), (((True, (0, 0)), (True, (None,)), (True, (7, 7))), 1),
            (((True, (0, (0,))),), 0),
        ]
        for form, state in cases:
            for passed in (form, lists_of(form)):
                with self.assertRaises(BadForm) as caught:
                    TextSet("ab", passed)
                self.assertEqual(caught.exception.state, state, form)

    def test_unreached_states_are_judged_too(self):
        with self.assertRaises(BadForm) as caught:
            TextSet("a", ((True, (None,)), (True, (5,))))
        self.assertEqual(caught.exception.state, 1)

    def test_later_changes_of_the_argument(self):
        form = [[False, [1, None]], [True, [None, None]]]
        before = lists_of(form)
        texts = TextSet("ab", form)
        self.assertEqual(form, before)
        form[1][0] = False
        form[0][1][0] = None
        self.assertIn("a", texts)
        self.assertTrue(only_tuples(texts.form))

    def test_sixty_states(self):
        form = [(state == 59, (state + 1 if state < 59 else None,)) for state in range(60)]
        self.assertEqual(len(TextSet("a", form).form), 60)


class OperatorsTest(unittest.TestCase):
    def pairs(self):
        found = random_sets(3, 40, most=4, widths=(1, 2))
        return [(one, two) for one, two in itertools.product(found, found[:10]) if one[0] == two[0]]

    def test_union_intersection_difference(self):
        for (alphabet, left), (_, right) in self.pairs():
            one, two = TextSet(alphabet, left), TextSet(alphabet, right)
            both, either, only = one & two, one | two, one - two
            for text in all_texts(alphabet, 5):
                inside = accepts(left, alphabet, text), accepts(right, alphabet, text)
                self.assertEqual(text in either, inside[0] or inside[1])
                self.assertEqual(text in both, inside[0] and inside[1])
                self.assertEqual(text in only, inside[0] and not inside[1])

    def test_concatenation(self):
        for (alphabet, left), (_, right) in self.pairs():
            joint = TextSet(alphabet, left) + TextSet(alphabet, right)
            for text in all_texts(alphabet, 5):
                cuts = range(len(text) + 1)
                expected = any(accepts(left, alphabet, text[:cut]) and accepts(right, alphabet, text[cut:]) for cut in cuts)
                self.assertEqual(text in joint, expected, (left, right, text))

    def test_complement(self):
        for alphabet, form in random_sets(4, 60):
            texts = TextSet(alphabet, form)
            for text in all_texts(alphabet, 4):
                self.assertEqual(text in ~texts, not accepts(form, alphabet, text))
            self.assertEqual(~~texts, texts)

    def test_results_are_least(self):
        one = exactly("ab", ["a", "ab"])
        self.assertEqual((one | ~one).form, ((True, (0, 0)),))
        self.assertEqual((one & ~one).form, ())
        self.assertEqual((one - one).form, ())
        self.assertEqual((nothing("ab") + one).form, ())
        self.assertEqual((one + nothing("ab")).form, ())
        self.assertEqual((~nothing("ab")).form, ((True, (0, 0)),))
        self.assertEqual((~everything("ab")).form, ())
        self.assertEqual((one + exactly("ab", [""])).form, one.form)
        self.assertEqual((everything("ab") + everything("ab")).form, ((True, (0, 0)),))

    def test_arguments_stay(self):
        one, two = exactly("ab", ["a", "ab"]), torn("ab", "*b")
        forms = one.form, two.form
        for made in (one | two, one & two, one - two, one + two, ~one):
            self.assertIsInstance(made, TextSet)
            self.assertEqual(made.alphabet, "ab")
            self.assertTrue(only_tuples(made.form))
        self.assertEqual((one.form, two.form), forms)

    def test_in(self):
        texts = torn("ab", "a*")
        self.assertIs("a" in texts, True)
        self.assertIs("ab" * 200 in texts, True)
        for value in ("", "b", "c", "ac", "a c", "A", "\n", "ab" * 199 + "ac"):
            self.assertIs(value in texts, False, value)
        self.assertIs("" in nothing("ab"), False)
        self.assertIs("" in everything("ab"), True)

    def test_equality(self):
        one = exactly("ab", ["a", "b"])
        self.assertIs(one == lengths("ab", 1, 1), True)
        self.assertIs(one == exactly("ab", ["a"]), False)
        self.assertIs(one != exactly("ab", ["a"]), True)
        self.assertIs(exactly("ab", ["a"]) == exactly("abc", ["a"]), False)
        self.assertIs(nothing("ab") == nothing("abc"), False)
        self.assertIs(nothing("ab") == nothing("ab"), True)
        for value in (None, 1, "ab", one.form, ("ab", one.form)):
            self.assertIs(one == value, False)
            self.assertIs(one != value, True)

    def test_alphabets_differ(self):
        one, two = exactly("ab", ["a"]), exactly("abc", ["a"])
        for act in (lambda: one | two, lambda: one & two, lambda: one - two, lambda: one + two):
            with self.assertRaises(AlphabetsDiffer) as caught:
                act()
            self.assertEqual((caught.exception.one, caught.exception.two), ("ab", "abc"))


class StatesTest(unittest.TestCase):
    def test_is_empty(self):
        self.assertIs(nothing("a").is_empty, True)
        self.assertIs(exactly("a", []).is_empty, True)
        self.assertIs(exactly("a", [""]).is_empty, False)
        self.assertIs(TextSet("a", ((False, (0,)),)).is_empty, True)

    def test_state_after(self):
        texts = exactly("ab", ["ab"])
        self.assertEqual([texts.state_after(text) for text in ("", "a", "ab")], [0, 1, 2])
        for text in ("b", "aba", "c", "ac", "A", "a" * 400, " "):
            self.assertIsNone(texts.state_after(text), text)
        self.assertIsNone(nothing("ab").state_after(""))
        self.assertEqual(everything("ab").state_after("ab" * 200), 0)

    def test_state_after_follows_the_least_form(self):
        for alphabet, form in random_sets(5, 40):
            texts = TextSet(alphabet, form)
            for text in all_texts(alphabet, 4):
                self.assertEqual(texts.state_after(text), read_form(texts.form, alphabet, text))

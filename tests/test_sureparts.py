import unittest

from firsthand.errors import EmptySet
from firsthand.setmaking import containing, everything, exactly, lengths, nothing, torn
from firsthand.sureparts import sure_at, sure_beginning, sure_ending, sure_letters
from firsthand.textsets import TextSet
from tests.brute import accepts, all_texts, random_sets


def common(texts, cut):
    longest = ""
    for length in range(1, len(texts[0]) + 1):
        part = cut(texts[0], length)
        if all(cut(text, length) == part for text in texts):
            longest = part
    return longest


class SurePartsTest(unittest.TestCase):
    def test_random_sets(self):
        for alphabet, form in random_sets(15, 250, most=4):
            texts = TextSet(alphabet, form)
            found = [text for text in all_texts(alphabet, 8 if len(alphabet) < 3 else 6) if accepts(form, alphabet, text)]
            if not found:
                continue
            self.assertEqual(sure_beginning(texts), common(found, lambda text, length: text[:length]))
            self.assertEqual(sure_ending(texts), common(found, lambda text, length: text[-length:]))
            self.assertEqual(sure_letters(texts), "".join(c for c in alphabet if all(c in text for text in found)))
            for index in range(6):
                letters = {text[index] if index < len(text) else None for text in found}
                self.assertEqual(sure_at(texts, index), letters.pop() if len(letters) == 1 else None)

    def test_one_text(self):
        texts = exactly("abc", ["abca"])
        self.assertEqual([sure_beginning(texts), sure_ending(texts), sure_letters(texts)], ["abca", "abca", "abc"])
        self.assertEqual([sure_at(texts, index) for index in (0, 1, 2, 3, 4, 60)], ["a", "b", "c", "a", None, None])

    def test_beginning_inside_another_text(self):
        texts = exactly("ab", ["ab", "abab", "ab" * 100])
        self.assertEqual([sure_beginning(texts), sure_ending(texts)], ["ab", "ab"])
        self.assertEqual(sure_beginning(exactly("ab", ["", "a"])), "")
        self.assertEqual(sure_ending(exactly("ab", ["", "a"])), "")

    def test_infinite_sets(self):
        texts = torn("abc", "ab*ca")
        self.assertEqual([sure_beginning(texts), sure_ending(texts), sure_letters(texts)], ["ab", "ca", "abc"])
        self.assertEqual([sure_at(texts, index) for index in range(4)], ["a", "b", None, None])
        self.assertEqual([sure_beginning(everything("a")), sure_letters(everything("a"))], ["", ""])
        self.assertEqual(sure_letters(containing("abc", "cb")), "bc")
        self.assertEqual(sure_beginning(torn("a", "aa*")), "aa")
        self.assertEqual(sure_ending(torn("a", "aa*")), "aa")

    def test_only_letter(self):
        texts = lengths("a", 40, None)
        self.assertEqual(sure_beginning(texts), "a" * 40)
        self.assertEqual(sure_ending(texts), "a" * 40)
        self.assertEqual([sure_at(texts, 39), sure_at(texts, 40)], ["a", None])
        self.assertEqual(sure_at(lengths("a", 61, None), 60), "a")

    def test_empty_set(self):
        for ask in (sure_beginning, sure_ending, sure_letters, lambda texts: sure_at(texts, 0)):
            with self.assertRaises(EmptySet):
                ask(nothing("ab"))

import itertools
import unittest

from firsthand.setasking import least_text, length_range, member_count, members, total_count
from firsthand.setmaking import containing, everything, exactly, lengths, nothing, torn
from firsthand.textsets import TextSet
from tests.brute import accepts, all_texts, random_sets


class SetAskingTest(unittest.TestCase):
    def test_random_sets(self):
        for alphabet, form in random_sets(14, 120, most=4):
            texts = TextSet(alphabet, form)
            longest = 7 if len(alphabet) < 3 else 6
            found = [text for text in all_texts(alphabet, longest) if accepts(form, alphabet, text)]
            # With at most 4 states, a set is infinite if it has a text of 4 to 7 letters.
            infinite = any(4 <= len(text) for text in found)
            self.assertEqual(least_text(texts), found[0] if found else None)
            self.assertEqual(list(members(texts, longest=longest)), found)
            for length in range(longest + 1):
                self.assertEqual(member_count(texts, length), len([text for text in found if len(text) == length]))
            self.assertEqual(total_count(texts), None if infinite else len(found))
            if found:
                self.assertEqual(length_range(texts), (len(found[0]), None if infinite else len(found[-1])))
            else:
                self.assertIsNone(length_range(texts))

    def test_empty_set(self):
        texts = nothing("ab")
        self.assertIsNone(least_text(texts))
        self.assertEqual(member_count(texts, 0), 0)
        self.assertEqual(total_count(texts), 0)
        self.assertEqual(list(members(texts, longest=40)), [])
        self.assertIsNone(length_range(texts))

    def test_empty_text(self):
        texts = exactly("ab", [""])
        self.assertEqual(least_text(texts), "")
        self.assertEqual([member_count(texts, length) for length in (0, 1, 60)], [1, 0, 0])
        self.assertEqual(total_count(texts), 1)
        self.assertEqual(list(members(texts, longest=0)), [""])
        self.assertEqual(list(members(texts, longest=-1)), [])
        self.assertEqual(length_range(texts), (0, 0))

    def test_great_numbers(self):
        self.assertEqual(member_count(everything("abcdef"), 60), 6 ** 60)
        self.assertEqual(total_count(lengths("abcdef", 0, 40)), sum(6 ** length for length in range(41)))
        self.assertEqual(length_range(lengths("ab", 3, 40)), (3, 40))
        self.assertIsNone(total_count(everything("a")))
        self.assertEqual(length_range(containing("ab", "ab" * 100)), (200, None))
        self.assertEqual(least_text(containing("ab", "ba" * 100)), "ba" * 100)
        self.assertEqual(least_text(exactly("ab", ["b" * 200, "a" * 200])), "a" * 200)

    def test_members_one_after_the_other(self):
        found = members(torn("abcdef", "*f*"), longest=40)
        self.assertEqual(list(itertools.islice(found, 4)), ["f", "af", "bf", "cf"])
        late = members(lengths("abcdef", 40, 40), longest=40)
        self.assertEqual(next(late), "a" * 40)
        self.assertEqual(next(late), "a" * 39 + "b")
        rare = members(exactly("abcdef", ["f" * 40, "fedcba" * 6]), longest=40)
        self.assertEqual(list(rare), ["fedcba" * 6, "f" * 40])

    def test_members_twice_the_same(self):
        texts = torn("ab", "a*")
        self.assertEqual(list(members(texts, longest=4)), list(members(texts, longest=4)))

    def test_answers_are_tuples(self):
        self.assertIsInstance(length_range(everything("a")), tuple)

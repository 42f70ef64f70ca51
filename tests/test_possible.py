"""Point 64."""

import unittest

from firsthand.claims import Claim
from firsthand.families import Family
from firsthand.hands import Hand
from firsthand.handsets import copies, exemplars
from firsthand.histories import is_let, text_of
from firsthand.marks import holds
from firsthand.possible import history_with, possible
from firsthand.setasking import members, total_count
from firsthand.setmaking import everything, exactly, lengths, nothing, torn
from firsthand.textsets import TextSet
from tests.brute import all_texts, only_tuples
from tests.worlds import as_history, looked_at, random_worlds, text_in

HAND = Hand.of_faults("ab", [("omit", "b", 1), ("double", "a", 2)])
FAMILY = Family("ab").copied("x", "first", HAND).found("x", exactly("ab", ["aa"]))
TWINS = Family("ab").copied("x", "first", HAND).copied("y", "first", HAND)


class PossibleTest(unittest.TestCase):
    def test_example(self):
        found = possible(FAMILY, "first")
        self.assertIsInstance(found, TextSet)
        self.assertEqual(list(members(found, longest=2)), ["a", "aa", "ab", "ba"])
        self.assertEqual(possible(FAMILY, "x"), exactly("ab", ["aa"]))

    def test_infinitely_many(self):
        self.assertIsNone(total_count(possible(FAMILY, "first")))
        self.assertEqual(possible(FAMILY, "first"), exemplars(HAND, exactly("ab", ["aa"])))
        self.assertEqual(possible(Family("abc"), "first"), everything("abc"))
        family = TWINS.found("y", torn("ab", "a*b"))
        self.assertEqual(possible(family, "x"), copies(HAND, exemplars(HAND, torn("ab", "a*b"))))

    def test_no_history(self):
        for family in (FAMILY.found("first", nothing("ab")), FAMILY.found("first", exactly("ab", ["aaa", "b"]))):
            for name in family.names:
                self.assertEqual(possible(family, name), nothing("ab"))
        self.assertTrue(possible(FAMILY, "first", supposed=Claim.slips("x", 0) & Claim.reads("x", 0, "aa")).is_empty)

    def test_only_the_empty_text(self):
        self.assertEqual(possible(Family("ab").found("first", exactly("ab", [""])), "first"), exactly("ab", [""]))
        family = Family("ab").copied("x", "first", Hand("ab", [(0, "a", "", 1, 0)], [0]))
        self.assertEqual((possible(family, "x"), possible(family, "first")), (exactly("ab", [""]), torn("ab", "*") - containing_b()))

    def test_supposed(self):
        claim = Claim.costs(1)
        self.assertEqual(possible(FAMILY, "first", supposed=claim), exactly("ab", ["aa", "aab", "aba", "baa"]))
        wide = possible(TWINS, "x", supposed=Claim.apart("x", "y", 0) & Claim.lies("y", exactly("ab", ["ab", "b"])))
        self.assertEqual(wide, exactly("ab", ["ab", "b"]))

    def test_words_of_the_document(self):
        """The first text has at most three letters, so all histories are seen."""
        for family, _, supposed in random_worlds(64, 100):
            family = family.found("first", lengths(family.alphabet, 0, 3))
            found = looked_at(family, 3, supposed)
            for name in family.names:
                texts = {text_in(was, name) for was in found}
                answer = possible(family, name, supposed=supposed)
                self.assertEqual(total_count(answer), len(texts))
                self.assertTrue(all(text in answer for text in texts))

    def test_agrees_with_history_with(self):
        """Also where there are infinitely many histories."""
        for family, _, supposed in random_worlds(640, 40, places=2, most=400, atoms=2):
            for name in family.names[-2:]:
                answer = possible(family, name, supposed=supposed)
                for text in all_texts(family.alphabet, 3):
                    history = history_with(family, name, text, supposed=supposed)
                    self.assertIs(text in answer, history is not None)
                    if history is not None:
                        self.assertEqual(text_of(family, history, name), text)
                        self.assertIs(supposed is None or holds(family, history, supposed), True)


def containing_b():
    return everything("ab") - (everything("ab") - torn("ab", "*b*"))


class HistoryWithTest(unittest.TestCase):
    def test_least_history(self):
        for text, first in (("a", None), ("aa", "a"), ("", None), ("zz", None), ("A", None)):
            history = history_with(FAMILY, "x", text)
            self.assertEqual(None if history is None else history[0], first)
        history = history_with(FAMILY, "first", "bab")
        self.assertEqual(history, ("bab", (((("", 1),),), ((("aa", 2),),), ((("", 1),),))))
        self.assertTrue(only_tuples(history))
        self.assertIsNone(history_with(FAMILY, "first", "b"))
        self.assertIsNone(history_with(FAMILY.found("x", nothing("ab")), "x", "aa"))

    def test_long_text(self):
        family = Family("ab").copied("x", "first", HAND)
        text = "ab" * 100
        first, columns = history_with(family, "x", text)
        self.assertEqual((first, len(columns)), (text, 200))
        self.assertEqual(history_with(family, "x", "a" * 199)[0], "a" * 100)
        self.assertIs(is_let(family, (first, columns)), True)
        self.assertIsNone(history_with(family, "x", text, supposed=~Claim.lies("x", torn("ab", "a*"))))

    def test_words_of_the_document(self):
        for family, _, supposed in random_worlds(641, 60):
            family = family.found("first", lengths(family.alphabet, 0, 3))
            found = looked_at(family, 3, supposed)
            for name in family.names:
                for text in all_texts(family.alphabet, 2) + ["c"]:
                    with_it = [as_history(was) for was in found if text_in(was, name) == text]
                    answer = history_with(family, name, text, supposed=supposed)
                    self.assertEqual(answer, with_it[0] if with_it else None)


if __name__ == "__main__":
    unittest.main()

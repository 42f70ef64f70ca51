"""Point 67."""

import unittest

from firsthand.claims import Claim
from firsthand.errors import NoHistory
from firsthand.families import Family
from firsthand.hands import Hand
from firsthand.setmaking import exactly, lengths, nothing, torn
from firsthand.sureness import least_apart, sure_equal, sure_text
from tests.worlds import looked_at, random_worlds, text_in

HAND = Hand.of_faults("ab", [("omit", "b", 1), ("double", "a", 2)])
FAITHFUL = Hand.faithful("ab")
FAMILY = Family("ab").copied("x", "first", HAND).found("x", exactly("ab", ["aa"]))
NONE_LEFT = (FAMILY.found("first", nothing("ab")), FAMILY.found("first", exactly("ab", ["b"])))


class SureTextTest(unittest.TestCase):
    def test_text(self):
        self.assertEqual(sure_text(FAMILY, "x"), "aa")
        self.assertIsNone(sure_text(FAMILY, "first"))
        self.assertEqual(sure_text(FAMILY, "first", supposed=Claim.costs(0)), "aa")
        self.assertEqual(sure_text(Family("ab").found("first", exactly("ab", [""])), "first"), "")
        self.assertIsNone(sure_text(Family("ab"), "first"))

    def test_same_text_in_several_histories(self):
        rules = [(0, "a", "ab", 0, 0), (0, "a", "a", 1, 0), (0, "a", "a", 2, 0)]
        family = Family("ab").copied("x", "first", Hand("ab", rules, [0])).found("x", torn("ab", "a?a"))
        self.assertEqual(sure_text(family.found("x", torn("ab", "*b*")), "first"), "aa")
        self.assertIsNone(sure_text(family, "x"))

    def test_long_text(self):
        text = "ab" * 60
        family = Family("ab").copied("x", "first", FAITHFUL).found("x", exactly("ab", [text]))
        self.assertEqual(sure_text(family, "first"), text)


class SureEqualTest(unittest.TestCase):
    def test_equal(self):
        family = FAMILY.copied("y", "x", FAITHFUL).copied("z", "first", HAND)
        self.assertIs(sure_equal(family, "x", "y"), True)
        self.assertIs(sure_equal(family, "y", "x"), True)
        self.assertIs(sure_equal(family, "x", "x"), True)
        self.assertIs(sure_equal(family, "x", "first"), False)
        self.assertIs(sure_equal(family, "x", "z"), False)
        self.assertIs(sure_equal(family, "x", "z", supposed=Claim.costs(0)), True)

    def test_equal_texts_with_other_blocks(self):
        """The blocks count, not the texts."""
        rules = [(0, "a", "ab", 0, 1), (1, "a", "", 0, 0)]
        other = [(0, "a", "", 0, 1), (1, "a", "ab", 0, 0)]
        family = Family("ab").copied("x", "first", Hand("ab", rules, [0])).copied("y", "first", Hand("ab", other, [0]))
        family = family.found("first", exactly("ab", ["aa"]))
        self.assertEqual((sure_text(family, "x"), sure_text(family, "y")), ("ab", "ab"))
        self.assertIs(sure_equal(family, "x", "y"), False)
        self.assertEqual(least_apart(family, "x", "y"), 2)


class LeastApartTest(unittest.TestCase):
    def test_numbers(self):
        self.assertEqual(least_apart(FAMILY, "first", "x"), 0)
        self.assertEqual(least_apart(FAMILY, "first", "x", supposed=Claim.reads("x", 0, "")), 1)
        self.assertEqual(least_apart(FAMILY, "first", "x", supposed=Claim.lies("first", torn("ab", "bbb*bba"))), 5)
        self.assertEqual(least_apart(FAMILY, "x", "x"), 0)

    def test_none_for_more_than_nine(self):
        for count, answer in ((8, 8), (9, 9), (10, None), (11, None)):
            family = Family("ab").copied("x", "first", HAND).found("x", exactly("ab", [""]))
            family = family.found("first", exactly("ab", ["b" * count]))
            self.assertEqual(least_apart(family, "x", "first"), answer)
            self.assertEqual(least_apart(family, "x", "x"), 0)


class NoHistoryTest(unittest.TestCase):
    def test_no_history(self):
        for family in NONE_LEFT:
            asks = [lambda: sure_text(family, "x"), lambda: sure_equal(family, "x", "x"), lambda: least_apart(family, "first", "x")]
            for ask in asks:
                self.assertRaises(NoHistory, ask)
        nothing_left = Claim.costs(1) & ~Claim.costs(1)
        self.assertRaises(NoHistory, lambda: sure_text(FAMILY, "x", supposed=nothing_left))
        self.assertRaises(NoHistory, lambda: sure_equal(FAMILY, "x", "first", supposed=nothing_left))
        self.assertRaises(NoHistory, lambda: least_apart(FAMILY, "x", "first", supposed=nothing_left))

    def test_words_of_the_document(self):
        """The first text has at most three letters, so all histories are seen."""
        seen = set()
        for family, _, supposed in random_worlds(67, 200):
            family = family.found("first", lengths(family.alphabet, 0, 3))
            found = looked_at(family, 3, supposed)
            for name in family.names:
                texts = {text_in(was, name) for was in found}
                other = family.names[len(family) // 2]
                apart = [sum(a != b for a, b in zip(was["blocks"][name], was["blocks"][other])) for was in found]
                if not found:
                    self.assertRaises(NoHistory, lambda: sure_text(family, name, supposed=supposed))
                    self.assertRaises(NoHistory, lambda: sure_equal(family, name, other, supposed=supposed))
                    self.assertRaises(NoHistory, lambda: least_apart(family, name, other, supposed=supposed))
                else:
                    sure = sure_text(family, name, supposed=supposed)
                    self.assertEqual(sure, texts.pop() if len(texts) == 1 else None)
                    self.assertIs(sure_equal(family, name, other, supposed=supposed), max(apart) == 0)
                    self.assertEqual(least_apart(family, name, other, supposed=supposed), min(apart))
                    seen.add((sure is None, max(apart) == 0, min(apart)))
        self.assertGreater(len(seen), 5)


if __name__ == "__main__":
    unittest.main()

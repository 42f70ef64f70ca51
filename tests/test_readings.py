"""Point 74."""

import unittest

from firsthand.claims import Claim
from firsthand.families import Family
from firsthand.hands import Hand
from firsthand.histories import blocks, cost_of
from firsthand.readings import history_reading, margin, readings
from firsthand.setmaking import exactly, lengths, nothing, torn
from tests.brute import only_tuples
from tests.worlds import as_history, looked_at, random_worlds, text_key

HAND = Hand.of_faults("ab", [("omit", "b", 1), ("double", "a", 2)])
FAMILY = Family("ab").copied("x", "first", HAND).found("x", exactly("ab", ["aa"]))
EMPTY = FAMILY.found("first", nothing("ab"))


class ReadingsTest(unittest.TestCase):
    def test_weights_and_order(self):
        self.assertEqual(readings(FAMILY, "first", 0), (("a", 0), ("b", 1)))
        self.assertEqual(readings(FAMILY, "x", 0), (("a", 0), ("", 1), ("aa", 2)))
        self.assertEqual(readings(FAMILY, "x", 1), (("a", 0), ("", 1), ("aa", 3)))
        self.assertEqual(readings(FAMILY, "x", 12), (("", 11), ("a", 11), ("aa", 14)))
        self.assertTrue(only_tuples(readings(FAMILY, "x", 1)))

    def test_equal_weights_in_the_order_of_texts(self):
        rules = [(0, "a", block, 1, 0) for block in ("b", "ab", "", "aa", "a")]
        family = Family("ab").copied("x", "first", Hand("ab", rules, [0]))
        self.assertEqual(readings(family, "x", 0), tuple((block, 1) for block in ("", "a", "b", "aa", "ab")))

    def test_only_histories_that_have_the_place(self):
        family = FAMILY.found("first", lengths("ab", 0, 2))
        self.assertEqual(readings(family, "x", 1), (("a", 0), ("", 3), ("aa", 3)))
        self.assertEqual(readings(family, "x", 2), ())
        self.assertEqual(readings(EMPTY, "x", 0), ())
        self.assertEqual(readings(Family("ab").found("first", exactly("ab", [""])), "first", 0), ())

    def test_weight_is_that_of_the_whole_history(self):
        rules = [(0, "a", "a", 0, 1), (0, "a", "b", 5, 2), (1, "b", "b", 9, 3), (2, "b", "b", 0, 3)]
        family = Family("ab").copied("x", "first", Hand("ab", rules, [3]))
        self.assertEqual(readings(family, "x", 0), (("b", 5), ("a", 9)))
        self.assertEqual(readings(family, "x", 1), (("b", 5),))

    def test_supposed(self):
        self.assertEqual(readings(FAMILY, "x", 0, supposed=~Claim.costs(1)), (("", 2), ("a", 2), ("aa", 2)))
        self.assertEqual(readings(FAMILY, "x", 0, supposed=Claim.costs(1)), (("a", 0), ("", 1)))

    def test_margin(self):
        self.assertEqual(margin(FAMILY, "first", 0), 1)
        self.assertEqual(margin(FAMILY, "x", 12), 0)
        self.assertEqual(margin(FAMILY, "x", 0, supposed=~Claim.reads("x", 0, "")), 2)
        self.assertIsNone(margin(FAMILY, "first", 0, supposed=Claim.costs(0)))
        self.assertIsNone(margin(EMPTY, "x", 0))
        self.assertIsNone(margin(FAMILY.found("first", lengths("ab", 0, 2)), "x", 2))

    def test_history_reading(self):
        self.assertEqual(history_reading(FAMILY, "x", 0, "aa"), ("a", (((("aa", 2),),),)))
        self.assertEqual(history_reading(FAMILY, "x", 0, ""), ("baa", (((("", 1),),), ((("a", 0),),), ((("a", 0),),))))
        self.assertEqual(history_reading(FAMILY, "first", 1, "b")[0], "aba")
        self.assertTrue(only_tuples(history_reading(FAMILY, "x", 0, "aa")))
        for block in ("b", "aaa", "zz", "A"):
            self.assertIsNone(history_reading(FAMILY, "x", 0, block))
        self.assertIsNone(history_reading(EMPTY, "x", 0, "a"))
        self.assertIsNone(history_reading(FAMILY, "x", 0, "aa", supposed=Claim.costs(1)))

    def test_history_reading_costs_no_more_than_the_weight(self):
        """A shorter history that costs more is not taken."""
        history = history_reading(FAMILY, "first", 0, "b")
        self.assertEqual((history[0], cost_of(FAMILY, history)), ("baa", 1))
        self.assertEqual(history_reading(FAMILY, "first", 0, "b", supposed=~Claim.costs(1))[0], "baab")

    def test_words_of_the_document(self):
        """The first text has at most three letters, so all histories are seen."""
        sizes = set()
        for family, _, supposed in random_worlds(74, 100):
            family = family.found("first", lengths(family.alphabet, 0, 3))
            found = looked_at(family, 3, supposed)
            for name in family.names:
                for place in range(4):
                    weights = {}
                    for was in found:
                        if len(was["first"]) > place:
                            block = was["blocks"][name][place]
                            weights[block] = min(sum(was["costs"]), weights.get(block, 999))
                    expected = tuple(sorted(weights.items(), key=lambda pair: (pair[1], text_key(pair[0]))))
                    self.assertEqual(readings(family, name, place, supposed=supposed), expected)
                    apart = expected[1][1] - expected[0][1] if len(expected) > 1 else None
                    self.assertEqual(margin(family, name, place, supposed=supposed), apart)
                    sizes.add((len(expected), apart))
                    for block, weight in expected:
                        right = [as_history(was) for was in found if len(was["first"]) > place
                                 and was["blocks"][name][place] == block and sum(was["costs"]) == weight]
                        self.assertEqual(history_reading(family, name, place, block, supposed=supposed), right[0])
        self.assertGreater(len(sizes), 6)

    def test_infinitely_many_histories(self):
        for family, _, supposed in random_worlds(740, 40, places=2, most=400, atoms=2):
            for place in (0, 5):
                name = family.names[-1]
                for block, weight in readings(family, name, place, supposed=supposed):
                    history = history_reading(family, name, place, block, supposed=supposed)
                    self.assertEqual(blocks(family, history)[-1][place], block)
                    self.assertEqual(cost_of(family, history), weight)


if __name__ == "__main__":
    unittest.main()

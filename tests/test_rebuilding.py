"""Point 76."""

import unittest

from firsthand.claims import Claim
from firsthand.errors import NoHistory
from firsthand.families import Family
from firsthand.hands import Hand
from firsthand.histories import text_of
from firsthand.prices import cheapest_history
from firsthand.readings import readings
from firsthand.rebuilding import apparatus, rebuilt
from firsthand.setmaking import everything, exactly, lengths, nothing, torn
from tests.brute import only_tuples
from tests.worlds import random_worlds

HAND = Hand.of_faults("ab", [("omit", "b", 1), ("double", "a", 2)])
FAMILY = Family("ab").copied("x", "first", HAND).found("x", exactly("ab", ["aa"]))


class RebuildingTest(unittest.TestCase):
    def test_rebuilt(self):
        self.assertEqual(rebuilt(FAMILY, "first"), "aa")
        self.assertEqual(rebuilt(FAMILY, "x"), "aa")
        self.assertEqual(rebuilt(FAMILY, "first", supposed=Claim.reads("first", 1, "b")), "aba")
        self.assertEqual(rebuilt(FAMILY, "first", supposed=~Claim.costs(1)), "a")

    def test_apparatus(self):
        self.assertEqual(apparatus(FAMILY, "first"), ((("a", 0), ("b", 1)), (("a", 0), ("b", 1))))
        self.assertEqual(apparatus(FAMILY, "x"), ((("a", 0), ("", 1), ("aa", 2)), (("a", 0), ("", 1), ("aa", 3))))
        self.assertTrue(only_tuples(apparatus(FAMILY, "x")))
        self.assertEqual(apparatus(FAMILY, "first", supposed=Claim.costs(0)), ((("a", 0),), (("a", 0),)))

    def test_no_places(self):
        self.assertEqual((rebuilt(Family("ab"), "first"), apparatus(Family("ab"), "first")), ("", ()))
        family = Family("ab").copied("x", "first", HAND).found("x", torn("ab", "*"))
        self.assertEqual((rebuilt(family, "x"), apparatus(family, "x")), ("", ()))

    def test_many_places(self):
        text = "ab" * 20
        family = Family("ab").copied("x", "first", HAND).found("x", exactly("ab", [text]))
        found = apparatus(family, "first")
        self.assertEqual(len(found), 40)
        self.assertEqual("".join(row[0][0] for row in found), rebuilt(family, "first"))
        self.assertEqual(found[39], (("b", 0), ("a", 1)))

    def test_no_history(self):
        for family in (FAMILY.found("first", nothing("ab")), FAMILY.found("first", exactly("ab", ["b"]))):
            self.assertRaises(NoHistory, lambda: rebuilt(family, "first"))
            self.assertRaises(NoHistory, lambda: apparatus(family, "first"))
        claim = Claim.lies("x", everything("ab"))
        self.assertRaises(NoHistory, lambda: rebuilt(FAMILY, "x", supposed=~claim))
        self.assertRaises(NoHistory, lambda: apparatus(FAMILY, "x", supposed=~claim))

    def test_words_of_the_document(self):
        places = set()
        for family, _, supposed in random_worlds(76, 120, places=2, most=600):
            family = family.found("first", lengths(family.alphabet, 0, 3))
            history = cheapest_history(family, supposed=supposed)
            for name in family.names:
                if history is None:
                    self.assertRaises(NoHistory, lambda: rebuilt(family, name, supposed=supposed))
                    self.assertRaises(NoHistory, lambda: apparatus(family, name, supposed=supposed))
                else:
                    self.assertEqual(rebuilt(family, name, supposed=supposed), text_of(family, history, name))
                    expected = tuple(readings(family, name, place, supposed=supposed) for place in range(len(history[0])))
                    self.assertEqual(apparatus(family, name, supposed=supposed), expected)
                    places.add(len(expected))
        self.assertLessEqual({0, 1, 2}, places)


if __name__ == "__main__":
    unittest.main()

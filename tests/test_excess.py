"""Point 75."""

import unittest

from firsthand.claims import Claim
from firsthand.errors import NoHistory
from firsthand.excess import excess
from firsthand.families import Family
from firsthand.hands import Hand
from firsthand.setmaking import exactly, lengths, nothing, torn
from firsthand.verdicts import verdict
from tests.worlds import keeps, looked_at, random_worlds

HAND = Hand.of_faults("ab", [("omit", "b", 1), ("double", "a", 5)])
FAMILY = Family("ab").copied("x", "first", HAND).found("x", exactly("ab", ["aa"]))


class ExcessTest(unittest.TestCase):
    def test_numbers(self):
        self.assertEqual(excess(FAMILY, Claim.reads("first", 0, "b")), -1)
        self.assertEqual(excess(FAMILY, Claim.reads("first", 0, "a")), 0)
        self.assertEqual(excess(FAMILY, ~Claim.reads("x", 0, "aa")), 4)
        self.assertEqual(excess(FAMILY, Claim.costs(7)), 7)
        self.assertIsNone(excess(FAMILY, Claim.lies("first", torn("ab", "*a*"))))

    def test_supposed(self):
        self.assertEqual(excess(FAMILY, Claim.costs(7), supposed=~Claim.costs(2)), 4)
        self.assertEqual(excess(FAMILY, Claim.costs(7), supposed=~Claim.costs(8)), -1)
        self.assertIsNone(excess(FAMILY, Claim.costs(7), supposed=Claim.costs(7)))

    def test_no_history(self):
        for family in (FAMILY.found("first", nothing("ab")), FAMILY.found("first", exactly("ab", ["b"]))):
            self.assertRaises(NoHistory, lambda: excess(family, Claim.costs(1)))
        self.assertRaises(NoHistory, lambda: excess(FAMILY, Claim.costs(1), supposed=Claim.costs(0) & ~Claim.costs(0)))

    def test_words_of_the_document(self):
        """The first text has at most three letters, so all histories are seen."""
        answers = set()
        for family, claim, supposed in random_worlds(75, 200):
            family = family.found("first", lengths(family.alphabet, 0, 3))
            found = looked_at(family, 3, supposed)
            broken = [sum(was["costs"]) for was in found if not keeps(family, was, claim)]
            if not found:
                self.assertRaises(NoHistory, lambda: excess(family, claim, supposed=supposed))
            else:
                least = min(sum(was["costs"]) for was in found)
                answer = excess(family, claim, supposed=supposed)
                self.assertEqual(answer, min(broken) - least - 1 if broken else None)
                self.assertIs(answer is None, verdict(family, claim, supposed=supposed).word == "sure")
                answers.add(answer)
        self.assertLessEqual({None, -1, 0}, answers)
        self.assertGreater(len(answers), 3)


if __name__ == "__main__":
    unittest.main()

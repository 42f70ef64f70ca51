"""Points 77 and 78."""

import collections
import math
import unittest

from firsthand.claims import Claim
from firsthand.errors import NoHistory
from firsthand.families import Family
from firsthand.hands import Hand
from firsthand.histories import cost_of
from firsthand.profiles import cost_profile, cost_range, slip_range
from firsthand.setmaking import exactly, lengths, nothing, torn
from firsthand.walks import count_histories, histories
from tests.brute import only_tuples
from tests.worlds import looked_at, random_worlds

HAND = Hand.of_faults("ab", [("omit", "b", 1), ("double", "a", 2)])
FAMILY = Family("ab").copied("x", "first", HAND).found("x", exactly("ab", ["aa"]))
NONE_LEFT = (FAMILY.found("first", nothing("ab")), FAMILY.found("first", exactly("ab", ["b"])))


class ProfileTest(unittest.TestCase):
    def test_few_places(self):
        self.assertEqual(cost_profile(FAMILY, places=0), ())
        self.assertEqual(cost_profile(Family("ab"), places=0), ((0, 1),))
        self.assertEqual(cost_profile(FAMILY, places=1), ((2, 1),))
        self.assertEqual(cost_profile(FAMILY, places=2), ((0, 1), (2, 1), (3, 2)))
        self.assertTrue(only_tuples(cost_profile(FAMILY, places=2)))
        for family in NONE_LEFT:
            self.assertEqual(cost_profile(family, places=40), ())

    def test_forty_places(self):
        self.assertEqual(cost_profile(Family("ab"), places=40), ((0, 2 ** 41 - 1),))
        rules = [(0, "a", "a", 0, 0), (0, "a", "b", 99, 0)]
        family = Family("ab").copied("x", "first", Hand("ab", rules, [0])).found("first", lengths("ab", 40, 40))
        self.assertEqual(cost_profile(family, places=40), tuple((99 * many, math.comb(40, many)) for many in range(41)))
        self.assertEqual(cost_profile(family, places=39), ())
        claim = Claim.slips("x", 2)
        self.assertEqual(cost_profile(family, places=40, supposed=claim), ((0, 1), (99, 40), (198, 780)))

    def test_words_of_the_document(self):
        for family, _, supposed in random_worlds(77, 120):
            found = looked_at(family, 3, supposed)
            for places in range(4):
                counts = collections.Counter(sum(was["costs"]) for was in found if len(was["first"]) <= places)
                self.assertEqual(cost_profile(family, places=places, supposed=supposed), tuple(sorted(counts.items())))
            total = sum(count_histories(family, places=places, supposed=supposed) for places in range(13))
            self.assertEqual(sum(count for _, count in cost_profile(family, places=12, supposed=supposed)), total)


class RangeTest(unittest.TestCase):
    def test_ranges(self):
        self.assertEqual(cost_range(FAMILY), (0, None))
        self.assertEqual(slip_range(FAMILY, "x"), (0, None))
        self.assertEqual(slip_range(FAMILY, "first"), (0, 0))
        family = FAMILY.found("first", torn("ab", "??"))
        self.assertEqual((cost_range(family), slip_range(family, "x")), ((0, 3), (0, 2)))
        family = FAMILY.found("first", torn("ab", "b??"))
        self.assertEqual((cost_range(family), slip_range(family, "x")), ((1, 4), (1, 3)))
        self.assertEqual(cost_range(Family("ab")), (0, 0))

    def test_slips_that_cost_nothing(self):
        family = Family("ab").joined("j", "first", "first", cost=0).copied("x", "first", HAND)
        self.assertEqual((slip_range(family, "j"), slip_range(family, "x")), ((0, None), (0, None)))
        self.assertEqual(cost_range(family, supposed=Claim.slips("x", 0)), (0, 0))
        self.assertEqual(slip_range(family, "j", supposed=Claim.slips("x", 0)), (0, None))
        family = Family("ab").joined("j", "first", "first", most=3, cost=0)
        self.assertEqual((slip_range(family, "j"), cost_range(family)), ((0, 3), (0, 0)))

    def test_infinitely_many_histories_with_a_greatest_number(self):
        family = Family("ab").copied("x", "first", HAND.limited(4))
        self.assertEqual((slip_range(family, "x"), cost_range(family)), ((0, 4), (0, 8)))
        self.assertEqual(slip_range(FAMILY, "x", supposed=Claim.costs(7)), (0, 7))
        self.assertEqual(cost_range(FAMILY, supposed=Claim.slips("x", 3) & ~Claim.slips("x", 1)), (2, 4))

    def test_longer_way_to_a_track_that_is_found_early(self):
        rules = [(0, "a", "a", 0, 1), (0, "b", "b", 5, 2), (2, "a", "a", 5, 1), (1, "b", "b", 1, 3)]
        family = Family("ab").copied("x", "first", Hand("ab", rules, [3]))
        self.assertEqual((cost_range(family), slip_range(family, "x")), ((1, 11), (1, 3)))

    def test_ring_that_leads_nowhere(self):
        rules = [(0, "a", "a", 0, 0), (0, "b", "b", 1, 1), (1, "a", "a", 7, 1), (0, "b", "", 2, 2)]
        family = Family("ab").copied("x", "first", Hand("ab", rules, [0, 2]))
        self.assertEqual((cost_range(family), slip_range(family, "x")), ((0, 2), (0, 1)))
        family = Family("ab").copied("x", "first", Hand("ab", rules, [0, 1]))
        self.assertEqual((cost_range(family), slip_range(family, "x")), ((0, None), (0, None)))

    def test_no_history(self):
        for family in NONE_LEFT:
            self.assertRaises(NoHistory, lambda: cost_range(family))
            self.assertRaises(NoHistory, lambda: slip_range(family, "first"))
        claim = Claim.costs(3)
        self.assertRaises(NoHistory, lambda: cost_range(FAMILY, supposed=claim & ~claim))
        self.assertRaises(NoHistory, lambda: slip_range(FAMILY, "x", supposed=claim & ~claim))

    def test_words_of_the_document(self):
        """The first text has at most three letters, so all histories are seen."""
        seen = set()
        for family, _, supposed in random_worlds(78, 150):
            family = family.found("first", lengths(family.alphabet, 0, 3))
            found = looked_at(family, 3, supposed)
            if not found:
                self.assertRaises(NoHistory, lambda: cost_range(family, supposed=supposed))
            else:
                costs = [sum(was["costs"]) for was in found]
                self.assertEqual(cost_range(family, supposed=supposed), (min(costs), max(costs)))
                for name in family.names:
                    slips = [was["slips"][name] for was in found]
                    self.assertEqual(slip_range(family, name, supposed=supposed), (min(slips), max(slips)))
                    seen.add((min(slips), max(slips)))
        self.assertGreater(len(seen), 5)

    def test_infinitely_many_histories(self):
        bounded = 0
        for family, _, supposed in random_worlds(780, 60, places=2, most=400, atoms=1):
            if count_histories(family, places=9, supposed=supposed) > 2000:
                continue
            costs = [cost_of(family, history) for history in histories(family, places=9, supposed=supposed)]
            if costs:
                least, greatest = cost_range(family, supposed=supposed)
                self.assertEqual(least, min(costs))
                if greatest is not None:
                    self.assertEqual(greatest, max(costs))
                    bounded += 1
                else:
                    early = [cost_of(family, history) for history in histories(family, places=4, supposed=supposed)]
                    self.assertGreater(max(costs), max(early, default=-1))
        self.assertGreater(bounded, 10)


if __name__ == "__main__":
    unittest.main()

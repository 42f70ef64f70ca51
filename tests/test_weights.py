"""Points 110 to 112."""

import fractions
import math
import random
import unittest

from firsthand.claims import Claim
from firsthand.errors import AlphabetsDiffer, BadSpread, UnknownCopy
from firsthand.families import Family
from firsthand.hands import Hand
from firsthand.setmaking import containing, counting, everything, exactly, lengths, nothing, torn
from firsthand.solving import solution
from firsthand.tracks import is_full, track_moves
from firsthand.walks import reachable
from firsthand.weights import is_weight_table, total_weight, weights
from tests.brute import lists_of, only_tuples
from tests.worlds import as_history, beginnings, looked_at, random_worlds, track_told

HAND = Hand.of_faults("ab", [("omit", "b", 1), ("double", "a", 2)])
OMIT = Hand.of_faults("ab", [("omit", "b", 1)])
SHORT = Family("ab").copied("x", "first", OMIT).found("x", exactly("ab", [""]))
FAMILY = Family("ab").copied("x", "first", HAND).found("x", exactly("ab", ["aa"]))
STILL = FAMILY.found("first", nothing("ab"))
HOPELESS = Family("ab").found("first", exactly("ab", ["a"]))


def as_pair(value):
    fraction = fractions.Fraction(value)
    return (fraction.numerator, fraction.denominator)


def spread_for(family, claim):
    """One more than the greatest number of moves of a reached track."""
    return 1 + max(sum(len(track_moves(family, claim, track, letter)) for letter in family.alphabet) for track in reachable(family, supposed=claim))


def equation(family, claim, track, known, spread, fade):
    """The weight of a track by the weights of the tracks after its moves (point 111)."""
    total = fractions.Fraction(1 if is_full(family, claim, track) else 0)
    for letter in family.alphabet:
        for _, cost, after in track_moves(family, claim, track, letter):
            total += known[after] / (spread * fade ** cost)
    return total


class WeightsTest(unittest.TestCase):
    def test_documents_example(self):
        self.assertEqual(total_weight(SHORT, spread=4), (8, 7))

    def test_powers(self):
        """Each text of the letter b alone is a history, and each b costs 1."""
        for spread, fade in ((4, 1), (4, 2), (10, 9), (1000, 3)):
            expected = 1 / (1 - fractions.Fraction(1, spread * fade))
            self.assertEqual(total_weight(SHORT, spread=spread, fade=fade), as_pair(expected))
        self.assertEqual(total_weight(SHORT, spread=4), total_weight(SHORT, spread=4, fade=2))

    def test_without_copies(self):
        self.assertEqual(total_weight(Family("abc"), spread=4), (4, 1))
        self.assertEqual(total_weight(Family("a"), spread=2), (2, 1))
        self.assertEqual(weights(Family("abc"), spread=5), ((reachable(Family("abc"))[0], (5, 2)),))
        self.assertTrue(only_tuples(weights(FAMILY, spread=5)))

    def test_order_and_tracks_that_weigh_nothing(self):
        family = Family("ab").copied("x", "first", Hand("ab", [(0, "b", "", 0, 1), (0, "a", "a", 1, 0), (1, "b", "", 0, 1)], [0]))
        table = weights(family, spread=3, fade=5)
        self.assertEqual(table, ((reachable(family)[0], (15, 14)), (reachable(family)[1], (0, 1))))
        claim = Claim.reads("x", 0, "aa")
        self.assertEqual([track for track, _ in weights(FAMILY, spread=5, supposed=claim)], list(reachable(FAMILY, supposed=claim)))

    def test_no_start_track_and_no_history(self):
        self.assertEqual((weights(STILL, spread=2), total_weight(STILL, spread=2)), ((), (0, 1)))
        family = HOPELESS.copied("x", "first", Hand("ab", [], [0]))
        self.assertEqual((weights(family, spread=2), total_weight(family, spread=2)), (((reachable(family)[0], (0, 1)),), (0, 1)))
        self.assertEqual(total_weight(FAMILY, spread=5, supposed=Claim.costs(0) & ~Claim.costs(0)), (0, 1))

    def test_supposed(self):
        """Of all texts of b only those with at most two letters."""
        claim = Claim.slips("x", 2)
        self.assertEqual(total_weight(SHORT, spread=4, supposed=claim), as_pair(1 + fractions.Fraction(1, 8) + fractions.Fraction(1, 64)))
        both = [total_weight(SHORT, spread=4, supposed=part) for part in (claim, ~claim)]
        self.assertEqual(as_pair(sum(fractions.Fraction(*part) for part in both)), (8, 7))

    def test_words_of_the_document(self):
        """The first text has at most three letters, so all histories are seen."""
        sizes = set()
        rand = random.Random(111)
        for family, _, supposed in random_worlds(111, 120):
            family = family.found("first", lengths(family.alphabet, 0, 3))
            spread, fade = rand.choice([300, 1000]), rand.randint(1, 9)
            found = looked_at(family, 3, supposed)
            rests = {}
            first_ways = {}
            for was in beginnings(family, 3):
                first_ways.setdefault(track_told(family, was, supposed), as_history(was))
            for was in found:
                weight = fractions.Fraction(1)
                for place in reversed(range(len(was["first"]) + 1)):
                    if place < len(was["first"]):
                        weight /= spread * fade ** was["costs"][place]
                    key = (was["first"][:place], was["columns"][:place])
                    rests[key] = rests.get(key, 0) + weight
            expected = tuple((track, as_pair(rests.get(way, 0))) for track, way in first_ways.items())
            table = weights(family, spread=spread, fade=fade, supposed=supposed)
            self.assertEqual(table, expected)
            self.assertIs(is_weight_table(family, table, spread=spread, fade=fade, supposed=supposed), True)
            self.assertEqual(total_weight(family, spread=spread, fade=fade, supposed=supposed), expected[0][1] if expected else (0, 1))
            sizes.update(fraction for _, fraction in expected)
        self.assertGreater(len(sizes), 100)

    def test_infinitely_many_histories(self):
        rand = random.Random(112)
        for family, _, supposed in random_worlds(112, 60, places=2, most=400, atoms=2):
            if not 0 < len(reachable(family, supposed=supposed)) < 400:
                continue
            spread, fade = spread_for(family, supposed) + rand.choice([1, 1, 7]), rand.randint(1, 9)
            table = weights(family, spread=spread, fade=fade, supposed=supposed)
            known = {track: fractions.Fraction(*fraction) for track, fraction in table}
            self.assertEqual(tuple(known), reachable(family, supposed=supposed))
            for track, (top, bottom) in table:
                self.assertEqual(math.gcd(top, bottom), 1)
                self.assertGreaterEqual(bottom, 1)
                self.assertEqual(known[track], equation(family, supposed, track, known, spread, fade))
            self.assertEqual(total_weight(family, spread=spread, fade=fade, supposed=supposed), table[0][1])

    def test_many_tracks(self):
        hand = Hand.of_faults("ab", [("omit", "ab", 1), ("double", "a", 2), ("leap", "b", 3)])
        family = Family("ab").copied("p", "first", hand).copied("x", "p", hand).copied("y", "p", hand)
        family = family.found("x", torn("ab", "a*b?a*")).found("y", torn("ab", "*bb?"))
        table = weights(family, spread=60)
        self.assertGreater(len(table), 500)
        self.assertIs(is_weight_table(family, table, spread=60), True)
        one_ring = Family("ab").copied("x", "first", hand).found("x", counting("ab", "a", 3, 7)).found("first", counting("ab", "b", 1, 5))
        self.assertIs(is_weight_table(one_ring, weights(one_ring, spread=6, fade=9), spread=6, fade=9), True)


class SolutionTest(unittest.TestCase):
    """Equations that are solved without rounding."""

    def test_whole_systems(self):
        rand = random.Random(110)
        for size in [1, 2, 3, 5, 8, 20] * 5:
            equations = []
            for _ in range(size):
                parts = {rand.randrange(size): rand.randint(0, 9) for _ in range(rand.randint(0, 4))}
                equations.append((sum(parts.values()) + rand.randint(1, 9), rand.choice([0, 0, 1, 7]), parts))
            kept = [(scale, base, dict(parts)) for scale, base, parts in equations]
            found = solution(equations)
            self.assertEqual(equations, kept)
            for (scale, base, parts), fraction in zip(equations, found):
                self.assertEqual(as_pair(fractions.Fraction(*fraction)), fraction)
                total = base + sum(part * fractions.Fraction(*found[number]) for number, part in parts.items())
                self.assertEqual(scale * fractions.Fraction(*fraction), total)
        self.assertEqual(solution([]), [])


class BadSpreadTest(unittest.TestCase):
    def refused(self, act, least):
        with self.assertRaises(BadSpread) as caught:
            act()
        self.assertEqual(vars(caught.exception), {"least": least})

    def test_number(self):
        # The start track has moves for a as "a" and as "aa", and for b as "" alone; behind it there are fewer.
        least = spread_for(FAMILY, None)
        self.assertEqual(least, 4)
        for ask in (weights, total_weight):
            for spread in (2, 3):
                self.refused(lambda: ask(FAMILY, spread=spread), 4)
            ask(FAMILY, spread=4)
        self.refused(lambda: total_weight(Family("abcdef"), spread=6), 7)
        self.assertEqual(total_weight(Family("abcdef"), spread=7), (7, 1))

    def test_every_single_move_counts(self):
        """Moves with the same track behind them are told apart by their columns."""
        rules = [(0, "a", block, cost, 0) for block in ("a", "b") for cost in (0, 1)]
        family = Family("ab").copied("x", "first", Hand("ab", rules, [0])).joined("j", "x", "first")
        self.assertEqual(spread_for(family, None), 9)
        self.refused(lambda: weights(family, spread=8), 9)
        # With the first letter a joined copy has no slip, later one side of both is one.
        parts = [fractions.Fraction(many, 9 * 2 ** cost) for many, cost in ((4, 0), (4, 1))]
        self.assertEqual(total_weight(Family("ab").copied("x", "first", Hand("ab", rules, [0])), spread=9), as_pair(1 / (1 - sum(parts) / 2)))

    def test_tracks_that_weigh_nothing_count(self):
        rules = [(0, "a", "a", 0, 0), (0, "b", "b", 0, 1)] + [(1, "b", block, 0, 1) for block in ("", "a", "b", "ab")]
        family = Family("ab").copied("x", "first", Hand("ab", rules, [0]))
        self.refused(lambda: total_weight(family, spread=4), 5)
        self.assertEqual(total_weight(family, spread=5), (5, 4))

    def test_no_tracks(self):
        self.assertEqual(total_weight(STILL, spread=2), (0, 1))
        only = Family("abc").found("first", exactly("abc", [""]))
        self.assertEqual(total_weight(only, spread=2), (1, 1))

    def test_behind_the_errors_of_claims(self):
        for ask in (weights, total_weight):
            self.assertRaises(UnknownCopy, lambda: ask(FAMILY, spread=2, supposed=Claim.slips("q", 1)))
            self.assertRaises(AlphabetsDiffer, lambda: ask(STILL, spread=2, supposed=Claim.lies("x", everything("abc"))))


class TableTest(unittest.TestCase):
    def setUp(self):
        self.claim = Claim.reads("x", 0, "a") | Claim.slips("x", 2)
        self.table = weights(FAMILY, spread=5, fade=3, supposed=self.claim)

    def judged(self, table, spread=5, fade=3, family=FAMILY, supposed=0):
        return is_weight_table(family, table, spread=spread, fade=fade, supposed=self.claim if supposed == 0 else supposed)

    def test_what_is_told(self):
        self.assertGreater(len(self.table), 5)
        self.assertIs(self.judged(self.table), True)
        self.assertIs(self.judged(lists_of(self.table)), True)
        self.assertIs(self.judged(self.table[::-1]), True)
        self.assertIs(is_weight_table(FAMILY, weights(FAMILY, spread=5), spread=5), True)

    def test_fractions_that_are_not_in_lowest_terms(self):
        self.assertIs(self.judged(tuple((track, (top * 6, bottom * 6)) for track, (top, bottom) in self.table)), True)
        self.assertIs(self.judged(tuple((track, (top * 6, bottom * 7)) for track, (top, bottom) in self.table)), False)

    def test_a_track_in_two_pairs(self):
        self.assertIs(self.judged(self.table + self.table[:1]), False)
        track, (top, bottom) = self.table[2]
        self.assertIs(self.judged(self.table + ((track, (top * 2, bottom * 2)),)), False)

    def test_a_track_is_missing(self):
        for at in range(len(self.table)):
            self.assertIs(self.judged(self.table[:at] + self.table[at + 1:]), False)
        self.assertIs(self.judged(()), False)
        self.assertIs(self.judged((), family=STILL), True)

    def test_a_track_that_weighs_nothing_is_missing(self):
        rules = [(0, "a", "a", 0, 0), (0, "b", "b", 0, 1), (1, "b", "b", 0, 1)]
        family = Family("ab").copied("x", "first", Hand("ab", rules, [0]))
        table = weights(family, spread=5)
        self.assertEqual([fraction for _, fraction in table], [(5, 4), (0, 1)])
        self.assertIs(is_weight_table(family, table, spread=5), True)
        self.assertIs(is_weight_table(family, table[:1], spread=5), False)

    def test_a_wrong_fraction(self):
        for at, (track, (top, bottom)) in enumerate(self.table):
            for wrong in ((top + 1, bottom), (top, bottom + 1), (0, 1), (-top, bottom)):
                if wrong[0] * bottom != top * wrong[1]:
                    self.assertIs(self.judged(self.table[:at] + ((track, wrong),) + self.table[at + 1:]), False)

    def test_other_scales(self):
        self.assertIs(self.judged(self.table, spread=6), False)
        self.assertIs(self.judged(self.table, fade=2), False)
        self.assertIs(self.judged(self.table, supposed=Claim.reads("x", 0, "a") | Claim.slips("x", 1)), False)
        self.assertIs(is_weight_table(FAMILY, weights(FAMILY, spread=5), spread=5, fade=2), True)

    def test_a_spread_that_is_too_small(self):
        """There is no error, also if the fractions fit."""
        self.assertIs(self.judged(self.table, spread=3), False)
        family = Family("ab")
        start = reachable(family)[0]
        self.assertIs(is_weight_table(family, ((start, (3, 1)),), spread=3), True)
        self.assertIs(is_weight_table(family, ((start, (0, 1)),), spread=2), False)
        dead = family.found("first", containing("ab", "a")).copied("x", "first", Hand("ab", [(0, "a", "a", 0, 0), (0, "b", "b", 0, 0)], []))
        table = tuple((track, (0, 1)) for track in reachable(dead))
        self.assertIs(is_weight_table(dead, table, spread=3), True)
        self.assertIs(is_weight_table(dead, table, spread=2), False)

    def test_more_tracks_than_needed(self):
        extra = (((7,), (None, 2)), ())
        self.assertIs(is_weight_table(FAMILY, weights(FAMILY, spread=5) + ((extra, (0, 1)),), spread=5), True)
        self.assertIs(is_weight_table(FAMILY, weights(FAMILY, spread=5) + ((extra, (1, 1)),), spread=5), False)

    def test_errors(self):
        self.assertRaises(UnknownCopy, lambda: self.judged((), supposed=Claim.slips("q", 1)))
        self.assertRaises(AlphabetsDiffer, lambda: self.judged((), family=STILL, supposed=Claim.lies("x", everything("abc"))))


if __name__ == "__main__":
    unittest.main()

"""Points 113 and 114."""

import fractions
import random
import unittest

from firsthand.claims import Claim
from firsthand.errors import AlphabetsDiffer, BadSpread, NoHistory, UnknownCopy
from firsthand.families import Family
from firsthand.hands import Hand
from firsthand.odds import mean_slips, odds, reading_odds
from firsthand.readings import readings
from firsthand.setmaking import everything, exactly, lengths, nothing, torn
from firsthand.verdicts import verdict
from firsthand.weights import total_weight
from tests.brute import only_tuples
from tests.test_weights import FAMILY, OMIT, SHORT, STILL, as_pair, spread_for
from tests.worlds import looked_at, random_worlds, text_key

Fraction = fractions.Fraction
FREE = Family("ab").copied("x", "first", OMIT)


def weight(was, spread, fade):
    return Fraction(1, spread ** len(was["first"]) * fade ** sum(was["costs"]))


class OddsTest(unittest.TestCase):
    def test_fractions(self):
        # Of all texts of b alone, each with 1/8 of the weight of the one before it.
        self.assertEqual(odds(SHORT, Claim.lies("first", exactly("ab", [""])), spread=4), (7, 8))
        self.assertEqual(odds(SHORT, Claim.slips("x", 1), spread=4), (63, 64))
        self.assertEqual(odds(SHORT, ~Claim.slips("x", 1), spread=4), (1, 64))
        self.assertEqual(odds(SHORT, Claim.slips("x", 0), spread=10, fade=9, supposed=Claim.slips("x", 1)), (90, 91))

    def test_sure_and_never(self):
        for claim, supposed, expected in (
                (Claim.lies("x", exactly("ab", [""])), None, (1, 1)), (Claim.lies("x", torn("ab", "?*")), None, (0, 1)),
                (Claim.slips("x", 2), Claim.slips("x", 1), (1, 1)), (~Claim.slips("x", 2), Claim.slips("x", 1), (0, 1)),
        ):
            self.assertEqual(odds(SHORT, claim, spread=4, supposed=supposed), expected)

    def test_order_of_errors(self):
        strange, wide = Claim.slips("q", 1), Claim.lies("x", everything("abc"))
        fine = Claim.costs(3)
        for family in (FREE, STILL):
            self.assertRaises(AlphabetsDiffer, lambda: odds(family, strange, spread=2, supposed=wide))
            self.assertRaises(UnknownCopy, lambda: odds(family, strange, spread=2, supposed=fine))
            self.assertRaises(AlphabetsDiffer, lambda: odds(family, wide, spread=2))
        with self.assertRaises(BadSpread) as caught:
            odds(FREE, fine, spread=3, supposed=fine & ~fine)
        self.assertEqual(caught.exception.least, 4)
        self.assertRaises(NoHistory, lambda: odds(FREE, fine, spread=4, supposed=fine & ~fine))
        self.assertRaises(NoHistory, lambda: odds(STILL, fine, spread=2))
        self.assertRaises(NoHistory, lambda: odds(FREE.found("first", exactly("ab", ["a"])).found("x", exactly("ab", ["b"])), fine, spread=4))

    def test_words_of_the_document(self):
        """The first text has at most three letters, so all histories are seen."""
        rand = random.Random(113)
        seen = set()
        for family, claim, supposed in random_worlds(113, 100, most=1500):
            family = family.found("first", lengths(family.alphabet, 0, 3))
            spread, fade = rand.choice([400, 1000]), rand.randint(1, 9)
            found = looked_at(family, 3, supposed)
            if not found:
                self.assertRaises(NoHistory, lambda: odds(family, claim, spread=spread, fade=fade, supposed=supposed))
                self.assertRaises(NoHistory, lambda: mean_slips(family, "first", spread=spread, fade=fade, supposed=supposed))
                self.assertEqual(reading_odds(family, "first", 0, spread=spread, fade=fade, supposed=supposed), ())
                continue
            whole = sum(weight(was, spread, fade) for was in found)
            keeping = [was for was in looked_at(family, 3, claim) if was in found]
            expected = as_pair(sum(weight(was, spread, fade) for was in keeping) / whole)
            self.assertEqual(odds(family, claim, spread=spread, fade=fade, supposed=supposed), expected)
            word = verdict(family, claim, supposed=supposed).word
            self.assertEqual(word, {(1, 1): "sure", (0, 1): "never"}.get(expected, "open"))
            seen.add(word)
            for name in family.names:
                slips = sum(weight(was, spread, fade) * was["slips"][name] for was in found)
                self.assertEqual(mean_slips(family, name, spread=spread, fade=fade, supposed=supposed), as_pair(slips / whole))
                for place in range(4):
                    self.compare_readings(family, name, place, spread, fade, supposed, found)
        self.assertEqual(len(seen), 3)

    def compare_readings(self, family, name, place, spread, fade, supposed, found):
        weighed = {}
        for was in found:
            if len(was["first"]) > place:
                block = was["blocks"][name][place]
                weighed[block] = weighed.get(block, 0) + weight(was, spread, fade)
        whole = sum(weighed.values())
        expected = tuple((block, as_pair(weighed[block] / whole)) for block in sorted(weighed, key=text_key))
        self.assertEqual(reading_odds(family, name, place, spread=spread, fade=fade, supposed=supposed), expected)

    def test_infinitely_many_histories(self):
        rand = random.Random(114)
        for family, claim, supposed in random_worlds(114, 40, places=2, most=300, atoms=1):
            try:
                spread = spread_for(family, supposed)
            except ValueError:
                continue
            name = rand.choice(family.names)
            found = reading_odds(family, name, 1, spread=spread, supposed=supposed)
            self.assertEqual({block for block, _ in found}, {block for block, _ in readings(family, name, 1, supposed=supposed)})
            self.assertEqual(sum(Fraction(*fraction) for _, fraction in found), 1 if found else 0)
            if total_weight(family, spread=spread, supposed=supposed) == (0, 1):
                continue
            parts = [odds(family, part, spread=spread, supposed=supposed) for part in (claim, ~claim)]
            self.assertEqual(sum(Fraction(*part) for part in parts), 1)
            # At least one slip, at least two slips and so on add up to the mean.
            mean = Fraction(*mean_slips(family, name, spread=spread, supposed=supposed))
            least = sum(1 - Fraction(*odds(family, Claim.slips(name, most), spread=spread, supposed=supposed)) for most in range(6))
            self.assertLessEqual(least, mean)
            for block, fraction in found:
                there = odds(family, Claim.reads(name, 1, block), spread=spread, supposed=supposed)
                place = 1 - Fraction(*odds(family, Claim.lies("first", lengths(family.alphabet, 0, 1)), spread=spread, supposed=supposed))
                self.assertEqual(Fraction(*fraction) * place, Fraction(*there))


class ReadingOddsTest(unittest.TestCase):
    def test_fractions(self):
        # All histories have the moves a (0), b (0) and b left out (1), whatever follows.
        self.assertEqual(reading_odds(FREE, "x", 0, spread=4), (("", (1, 5)), ("a", (2, 5)), ("b", (2, 5))))
        self.assertEqual(reading_odds(FREE, "first", 12, spread=4, fade=1), (("a", (1, 3)), ("b", (2, 3))))
        self.assertEqual(reading_odds(FREE, "x", 3, spread=4, fade=9), (("", (1, 19)), ("a", (9, 19)), ("b", (9, 19))))
        self.assertTrue(only_tuples(reading_odds(FREE, "x", 0, spread=4)))

    def test_order_of_texts(self):
        rules = [(0, "a", block, 0, 0) for block in ("b", "ab", "", "a", "aa")]
        family = Family("ab").copied("x", "first", Hand("ab", rules, [0]))
        self.assertEqual(reading_odds(family, "x", 0, spread=6), tuple((block, (1, 5)) for block in ("", "a", "b", "aa", "ab")))

    def test_only_histories_with_the_place(self):
        family = FREE.found("x", exactly("ab", ["", "a"]))
        self.assertEqual(reading_odds(family.found("first", lengths("ab", 0, 2)), "first", 1, spread=4), (("a", (2, 5)), ("b", (3, 5))))
        for place in (2, 12):
            self.assertEqual(reading_odds(family.found("first", lengths("ab", 0, 2)), "x", place, spread=4), ())
        self.assertEqual(reading_odds(STILL, "x", 0, spread=2), ())

    def test_errors(self):
        for family in (FREE, STILL):
            for ask in (lambda name, claim: reading_odds(family, name, 0, spread=2, supposed=claim),
                        lambda name, claim: mean_slips(family, name, spread=2, supposed=claim)):
                with self.assertRaises(UnknownCopy) as caught:
                    ask("r", Claim.slips("q", 1))
                self.assertEqual(caught.exception.name, "r")
                self.assertRaises(UnknownCopy, lambda: ask("x", Claim.slips("q", 1)))
                self.assertRaises(AlphabetsDiffer, lambda: ask("first", Claim.lies("x", everything("abc"))))
        for name in ("x", "first"):
            with self.assertRaises(BadSpread) as caught:
                reading_odds(FREE, name, 12, spread=3)
            self.assertEqual(caught.exception.least, 4)


class MeanSlipsTest(unittest.TestCase):
    def test_fractions(self):
        # One, two, three .. slips with 1/8, 1/64, 1/512 .. of the weight of none.
        self.assertEqual(mean_slips(SHORT, "x", spread=4), (1, 7))
        self.assertEqual(mean_slips(SHORT, "x", spread=4, supposed=Claim.slips("x", 1)), (1, 9))
        self.assertEqual(mean_slips(SHORT, "first", spread=4), (0, 1))
        self.assertEqual(mean_slips(FAMILY, "x", spread=5, supposed=Claim.costs(0)), (0, 1))

    def test_slips_not_costs(self):
        family = Family("ab").copied("x", "first", Hand("ab", [(0, "a", "a", 5, 0)], [0])).found("first", exactly("ab", ["aa"]))
        self.assertEqual(mean_slips(family, "x", spread=3), (2, 1))
        meeting = family.joined("j", "first", "first", cost=0).corrected("k", "x", "j", cost=0)
        self.assertEqual(mean_slips(meeting, "j", spread=6), (1, 2))
        self.assertEqual(mean_slips(meeting, "k", spread=6), (0, 1))

    def test_errors_at_the_end(self):
        fine = Claim.costs(3)
        self.assertRaises(BadSpread, lambda: mean_slips(FREE, "x", spread=3, supposed=fine & ~fine))
        self.assertRaises(NoHistory, lambda: mean_slips(FREE, "x", spread=4, supposed=fine & ~fine))
        self.assertRaises(NoHistory, lambda: mean_slips(FREE.found("first", nothing("ab")), "first", spread=2))


if __name__ == "__main__":
    unittest.main()

"""The order of errors of point 60, for every function that looks at histories."""

import unittest

from firsthand.claims import Claim
from firsthand.collations import history_showing, told_blocks
from firsthand.errors import AlphabetsDiffer, NoHistory, UnknownCopy
from firsthand.excess import excess
from firsthand.families import Family
from firsthand.finds import fewest_finds, needless_finds
from firsthand.hands import Hand
from firsthand.keeping import fewest_telling, indispensable
from firsthand.odds import mean_slips, odds, reading_odds
from firsthand.possible import history_with, possible
from firsthand.prices import cheapest_history, is_price_table, least_cost, prices
from firsthand.profiles import cost_profile, cost_range, slip_range
from firsthand.readings import history_reading, margin, readings
from firsthand.rebuilding import apparatus, rebuilt
from firsthand.setmaking import everything, exactly, nothing
from firsthand.settling import decides, settling
from firsthand.sureness import least_apart, sure_equal, sure_text
from firsthand.tellings import is_telling_table, telling
from firsthand.verdicts import is_verdict_table, verdict
from firsthand.walks import (
    count_histories, histories, is_closed, is_refutation, least_history, reachable, refutation,
)
from firsthand.weights import is_weight_table, total_weight, weights

FAMILY = Family("ab").copied("x", "first", Hand.of_faults("ab", [("omit", "b", 1)])).found("x", exactly("ab", ["a"]))
NONE_LEFT = FAMILY.found("first", nothing("ab"))
FINE = Claim.costs(9)
STRANGE = Claim.slips("q", 1)
WIDE = Claim.lies("x", everything("abc"))

# What each function is passed besides its names: it is called with the family, the names, a claim or None, and a supposition.
ASKS = {
    reachable: lambda f, names, claim, supposed: reachable(f, supposed=supposed),
    is_closed: lambda f, names, claim, supposed: is_closed(f, (), supposed=supposed),
    least_history: lambda f, names, claim, supposed: least_history(f, supposed=supposed),
    histories: lambda f, names, claim, supposed: next(histories(f, places=2, supposed=supposed), None),
    count_histories: lambda f, names, claim, supposed: count_histories(f, places=2, supposed=supposed),
    refutation: lambda f, names, claim, supposed: refutation(f, supposed=supposed),
    is_refutation: lambda f, names, claim, supposed: is_refutation(f, (), supposed=supposed),
    prices: lambda f, names, claim, supposed: prices(f, supposed=supposed),
    least_cost: lambda f, names, claim, supposed: least_cost(f, supposed=supposed),
    cheapest_history: lambda f, names, claim, supposed: cheapest_history(f, supposed=supposed),
    is_price_table: lambda f, names, claim, supposed: is_price_table(f, (), 0, supposed=supposed),
    cost_profile: lambda f, names, claim, supposed: cost_profile(f, places=2, supposed=supposed),
    cost_range: lambda f, names, claim, supposed: cost_range(f, supposed=supposed),
    weights: lambda f, names, claim, supposed: weights(f, spread=9, supposed=supposed),
    total_weight: lambda f, names, claim, supposed: total_weight(f, spread=9, supposed=supposed),
    is_weight_table: lambda f, names, claim, supposed: is_weight_table(f, (), spread=9, supposed=supposed),
}
NAMED = {
    possible: lambda f, names, claim, supposed: possible(f, *names, supposed=supposed),
    history_with: lambda f, names, claim, supposed: history_with(f, *names, "z", supposed=supposed),
    sure_text: lambda f, names, claim, supposed: sure_text(f, *names, supposed=supposed),
    readings: lambda f, names, claim, supposed: readings(f, *names, 0, supposed=supposed),
    margin: lambda f, names, claim, supposed: margin(f, *names, 0, supposed=supposed),
    history_reading: lambda f, names, claim, supposed: history_reading(f, *names, 0, "z", supposed=supposed),
    rebuilt: lambda f, names, claim, supposed: rebuilt(f, *names, supposed=supposed),
    apparatus: lambda f, names, claim, supposed: apparatus(f, *names, supposed=supposed),
    slip_range: lambda f, names, claim, supposed: slip_range(f, *names, supposed=supposed),
    settling: lambda f, names, claim, supposed: settling(f, *names, claim, supposed=supposed),
    decides: lambda f, names, claim, supposed: decides(f, *names, claim, supposed=supposed),
    reading_odds: lambda f, names, claim, supposed: reading_odds(f, *names, 0, spread=9, supposed=supposed),
    mean_slips: lambda f, names, claim, supposed: mean_slips(f, *names, spread=9, supposed=supposed),
    history_showing: lambda f, names, claim, supposed: history_showing(f, names, (), supposed=supposed),
}
TWO_NAMES = {
    sure_equal: lambda f, names, claim, supposed: sure_equal(f, *names, supposed=supposed),
    least_apart: lambda f, names, claim, supposed: least_apart(f, *names, supposed=supposed),
    told_blocks: lambda f, names, claim, supposed: told_blocks(f, names[:1], (), told=names[1], supposed=supposed),
    telling: lambda f, names, claim, supposed: telling(f, names[:1], told=names[1], supposed=supposed),
    is_telling_table: lambda f, names, claim, supposed: is_telling_table(f, names[:1], (), told=names[1], supposed=supposed),
    fewest_telling: lambda f, names, claim, supposed: fewest_telling(f, names[:1], told=names[1], supposed=supposed),
    indispensable: lambda f, names, claim, supposed: indispensable(f, names[:1], told=names[1], supposed=supposed),
}
JUDGING = {
    verdict: lambda f, names, claim, supposed: verdict(f, claim, supposed=supposed),
    is_verdict_table: lambda f, names, claim, supposed: is_verdict_table(f, claim, "sure", (), supposed=supposed),
    fewest_finds: lambda f, names, claim, supposed: fewest_finds(f, claim, supposed=supposed),
    needless_finds: lambda f, names, claim, supposed: needless_finds(f, claim, supposed=supposed),
    excess: lambda f, names, claim, supposed: excess(f, claim, supposed=supposed),
    odds: lambda f, names, claim, supposed: odds(f, claim, spread=9, supposed=supposed),
    settling: NAMED[settling],
    decides: NAMED[decides],
}
NEED_A_HISTORY = (sure_text, sure_equal, least_apart, excess, rebuilt, apparatus, slip_range, cost_range, odds, mean_slips)


class AskingTest(unittest.TestCase):
    def setUp(self):
        self.everything = [(ask, ()) for ask in ASKS.items()] + [(ask, ("x",)) for ask in NAMED.items()]
        self.everything += [(ask, ("x", "first")) for ask in TWO_NAMES.items()]
        self.everything += [(ask, ("x",)) for ask in JUDGING.items()]

    def refused(self, act, error, *fields):
        with self.assertRaises(error) as caught:
            act()
        self.assertEqual(tuple(vars(caught.exception).values()), fields)

    def test_names_come_first(self):
        for family in (FAMILY, NONE_LEFT):
            for ask in NAMED.values():
                self.refused(lambda: ask(family, ("r",), STRANGE, WIDE), UnknownCopy, "r")
                self.refused(lambda: ask(family, ("",), STRANGE, None), UnknownCopy, "")
            for ask in TWO_NAMES.values():
                self.refused(lambda: ask(family, ("r", "s"), None, WIDE), UnknownCopy, "r")
                self.refused(lambda: ask(family, ("x", "s"), None, WIDE), UnknownCopy, "s")

    def test_then_what_is_supposed(self):
        for (name, ask), names in self.everything:
            for family in (FAMILY, NONE_LEFT):
                self.refused(lambda: ask(family, names, FINE, STRANGE), UnknownCopy, "q")
                self.refused(lambda: ask(family, names, FINE, FINE | WIDE), AlphabetsDiffer, "ab", "abc")
                self.refused(lambda: ask(family, names, FINE, WIDE & STRANGE), AlphabetsDiffer, "ab", "abc")

    def test_then_the_claim(self):
        for ask in JUDGING.values():
            for family in (FAMILY, NONE_LEFT):
                self.refused(lambda: ask(family, ("x",), STRANGE, WIDE), AlphabetsDiffer, "ab", "abc")
                self.refused(lambda: ask(family, ("x",), STRANGE, None), UnknownCopy, "q")
                self.refused(lambda: ask(family, ("x",), FINE & ~WIDE, FINE), AlphabetsDiffer, "ab", "abc")

    def test_no_history_comes_last(self):
        for (function, ask), names in self.everything:
            if function in NEED_A_HISTORY:
                self.refused(lambda: ask(NONE_LEFT, names, FINE, None), NoHistory)
                self.refused(lambda: ask(FAMILY, names, FINE, FINE & ~FINE), NoHistory)
            else:
                ask(NONE_LEFT, names, FINE, FINE)

    def test_asking_again_gives_the_same(self):
        for (function, ask), names in self.everything:
            for supposed in (None, Claim.costs(0) | Claim.reads("x", 0, "")):
                one, two = [ask(FAMILY, names, FINE, supposed) for _ in range(2)]
                if function in (verdict, telling):
                    one, two = vars(one), vars(two)
                self.assertEqual(one, two)


if __name__ == "__main__":
    unittest.main()

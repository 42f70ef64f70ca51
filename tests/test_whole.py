"""One run through most parts of the program, whose answers agree with each other as the points ask."""

import fractions
import unittest

from firsthand.catalogues import Catalogue
from firsthand.choosing import catalogue_verdict, cheapest_stem, fewest_lost
from firsthand.chronicles import bonds
from firsthand.claimnotes import format_claim, parse_claim
from firsthand.claims import Claim
from firsthand.collations import collation_of, history_showing, told_blocks
from firsthand.courses import course
from firsthand.datedstems import dated_explaining, dated_needs, undatable
from firsthand.datings import dating, is_dating, is_ring
from firsthand.excess import excess
from firsthand.families import Family
from firsthand.familynotes import format_family, parse_family
from firsthand.finds import fewest_finds
from firsthand.habitpapers import are_habit_refutations, habit_refutations
from firsthand.habits import greatest_failures, habits, least_choices
from firsthand.handnotes import format_hand, parse_hand
from firsthand.hands import Hand
from firsthand.histories import cost_of, is_let, slips_of, text_of
from firsthand.historynotes import format_history, parse_history
from firsthand.keeping import fewest_telling, indispensable
from firsthand.ledgers import Ledger, Supposing, Trial
from firsthand.likeness import compare_families, is_likeness_table
from firsthand.marks import holds
from firsthand.needs import needs
from firsthand.odds import mean_slips, odds, reading_odds
from firsthand.possible import possible
from firsthand.prices import cheapest_history, is_price_table, least_cost, prices
from firsthand.profiles import cost_profile, cost_range, slip_range
from firsthand.pruning import restricted
from firsthand.readings import history_reading, readings
from firsthand.rebuilding import apparatus, rebuilt
from firsthand.scribes import explains
from firsthand.setmaking import exactly, lengths, torn
from firsthand.setnotes import format_set, parse_set
from firsthand.settling import settling
from firsthand.stempapers import are_stem_refutations, stem_refutations
from firsthand.stems import explaining, stem_family, stems
from firsthand.sureness import sure_text
from firsthand.tellings import is_telling_table, telling
from firsthand.verdicts import is_verdict_table, verdict
from firsthand.walks import count_histories, histories, is_refutation, reachable, refutation
from firsthand.weights import is_weight_table, total_weight, weights
from firsthand.years import sure_chain, sure_gap, sure_order, year_range

FAULTS = [("omit", "b", 1), ("double", "a", 2), ("mistake", "a", "b", 3)]
HAND = Hand.of_faults("ab", FAULTS[:2], limit=2)
OTHER = Hand.of_faults("ab", FAULTS)
MADE = Family("ab").copied("p", "first", HAND).copied("x", "p", HAND).copied("y", "p", OTHER)
PAGE = torn("ab", "a?b*")
CLAIM = Claim.reads("p", 0, "a")


class WholeTest(unittest.TestCase):
    def setUp(self):
        self.ledger = Ledger(MADE)
        self.ledger.enter(("found", "x", PAGE))
        self.ledger.enter(["found", "y", exactly("ab", ["aab", "abb", "b"])])
        self.ledger.enter(("found", "first", lengths("ab", 0, 4)))
        self.family = self.ledger.known

    def test_ledger_and_verdicts(self):
        words = list(course(self.ledger, CLAIM))
        self.assertEqual((len(words), words[-1]), (4, verdict(self.family, CLAIM).word))
        with Trial(self.ledger):
            self.ledger.enter(("lost", "first"))
            with Supposing(self.ledger, "y", exactly("ab", ["b"])) as same:
                self.assertEqual(same.family, self.family.lost("first").found("y", exactly("ab", ["b"])))
        self.assertEqual(self.ledger.known, self.family)
        found = [history for history in histories(self.family, places=4)]
        keeping = [history for history in found if holds(self.family, history, CLAIM)]
        breaking = [history for history in found if not holds(self.family, history, CLAIM)]
        answer = verdict(self.family, CLAIM)
        self.assertEqual((answer.word, answer.keeping, answer.breaking), ("open", keeping[0], breaking[0]))
        sure = verdict(self.family, CLAIM, supposed=CLAIM & Claim.slips("p", 1))
        self.assertEqual(sure.word, "sure")
        self.assertIs(is_verdict_table(self.family, CLAIM, "sure", sure.table, supposed=CLAIM & Claim.slips("p", 1)), True)
        self.assertIs(is_refutation(self.family, refutation(self.family, supposed=CLAIM & ~CLAIM), supposed=CLAIM & ~CLAIM), True)
        self.assertEqual(fewest_finds(self.family, CLAIM | ~CLAIM), ())

    def test_texts_that_may_have_stood(self):
        found = list(histories(self.family, places=4))
        for name in self.family.names:
            texts = {text_of(self.family, history, name) for history in found}
            self.assertEqual(possible(self.family, name), exactly("ab", sorted(texts)[:20]) | exactly("ab", sorted(texts)[20:40]))
            self.assertEqual(sure_text(self.family, name), texts.pop() if len(texts) == 1 else None)
        keeping, breaking, both = settling(self.family, "p", CLAIM)
        self.assertEqual(keeping | breaking | both, possible(self.family, "p"))
        self.assertTrue((keeping & breaking).is_empty)
        self.assertEqual(keeping | both, possible(self.family, "p", supposed=CLAIM))

    def test_costs_readings_and_odds(self):
        found = list(histories(self.family, places=4))
        costs = [cost_of(self.family, history) for history in found]
        self.assertEqual(least_cost(self.family), min(costs))
        self.assertEqual(cost_range(self.family), (min(costs), max(costs)))
        self.assertEqual(sum(count for _, count in cost_profile(self.family, places=4)), len(found))
        self.assertEqual(sum(count_histories(self.family, places=places) for places in range(5)), len(found))
        self.assertIs(is_price_table(self.family, prices(self.family), min(costs)), True)
        cheapest = found[costs.index(min(costs))]
        self.assertEqual((cheapest_history(self.family), rebuilt(self.family, "p")), (cheapest, text_of(self.family, cheapest, "p")))
        broken = min(cost for cost, history in zip(costs, found) if not holds(self.family, history, CLAIM))
        self.assertEqual(excess(self.family, CLAIM), broken - min(costs) - 1)
        for place, several in enumerate(apparatus(self.family, "p")):
            self.assertEqual(several, readings(self.family, "p", place))
            weighed = reading_odds(self.family, "p", place, spread=100)
            self.assertEqual(sorted(block for block, _ in several), sorted(block for block, _ in weighed))
            for block, weight in several:
                self.assertEqual(cost_of(self.family, history_reading(self.family, "p", place, block)), weight)
        whole = sum(fractions.Fraction(1, 100 ** len(history[0]) * 3 ** cost) for history, cost in zip(found, costs))
        self.assertEqual(total_weight(self.family, spread=100, fade=3), (whole.numerator, whole.denominator))
        self.assertIs(is_weight_table(self.family, weights(self.family, spread=100, fade=3), spread=100, fade=3), True)
        parts = [fractions.Fraction(*odds(self.family, claim, spread=100)) for claim in (CLAIM, ~CLAIM)]
        self.assertEqual(sum(parts), 1)
        slips = [slips_of(self.family, history, "x") for history in found]
        self.assertEqual(slip_range(self.family, "x"), (min(slips), max(slips)))
        self.assertLess(min(slips), fractions.Fraction(*mean_slips(self.family, "x", spread=100)))

    def test_collations_and_tellings(self):
        answer = telling(self.family, ["x", "y"], told="p")
        self.assertIs(answer.always, False)
        for history in (answer.one, answer.two):
            self.assertIs(is_let(self.family, history), True)
            self.assertEqual(collation_of(self.family, history, ["x", "y"]), answer.collation)
        shown = history_showing(self.family, ["x", "y"], answer.collation)
        self.assertEqual(collation_of(self.family, shown, ["x", "y"]), answer.collation)
        self.assertIn(shown[0], (answer.one[0], answer.two[0]))
        several = told_blocks(self.family, ["x", "y"], answer.collation, told="p")
        pair = [collation_of(self.family, history, ["p"])[answer.place][0] for history in (answer.one, answer.two)]
        self.assertEqual(list(several[answer.place][:2]), pair)
        self.assertEqual(fewest_telling(self.family, ["x", "y", "p"], told="p"), ("p",))
        self.assertEqual(indispensable(self.family, ["x", "y", "p"], told="p"), ("p",))
        table = telling(self.family, ["x", "p"], told="p").table
        self.assertIs(is_telling_table(self.family, ["x", "p"], table, told="p"), True)
        small = restricted(self.family, ["x"])
        likeness = compare_families(self.family, small, ["x", "first"])
        if likeness.alike:
            self.assertIs(is_likeness_table(self.family, small, ["x", "first"], likeness.table), True)
        else:
            side = (self.family, small)[likeness.holder]
            self.assertEqual(history_showing(side, ["x", "first"], likeness.collation), likeness.history)
            self.assertIsNone(history_showing((small, self.family)[likeness.holder], ["x", "first"], likeness.collation))

    def test_written_forms(self):
        family = parse_family(format_family(self.family))
        self.assertEqual(family, self.family)
        self.assertEqual(reachable(family), reachable(self.family))
        for history in list(histories(family, places=4))[:50]:
            self.assertEqual(parse_history(format_history(history)), history)
        claim = CLAIM & ~Claim.lies("x", PAGE) | Claim.shows(["x"], [["a"]])
        self.assertEqual(parse_claim(format_claim(claim)), claim)
        self.assertEqual(verdict(family, parse_claim(format_claim(claim))).word, verdict(self.family, claim).word)
        texts = possible(family, "first")
        self.assertEqual(parse_set(format_set(texts)), texts)
        self.assertEqual(parse_hand(format_hand(HAND)), HAND)
        self.assertIn(format_hand(HAND), format_family(self.family))

    def test_habits(self):
        family = self.family.found("y", exactly("ab", ["aab"])).found("p", exactly("ab", ["ab"]))
        least = least_choices(family, ["y"], FAULTS)
        worst = greatest_failures(family, ["y"], FAULTS)
        self.assertEqual((least, habits(family, ["y"], FAULTS)), (((1,),), ("needless", "must", "needless")))
        self.assertTrue(all(explains(family, ["y"], FAULTS, choice) for choice in least))
        self.assertFalse(any(explains(family, ["y"], FAULTS, choice) for choice in worst))
        self.assertIs(are_habit_refutations(family, ["y"], FAULTS, least, habit_refutations(family, ["y"], FAULTS)), True)

    def test_catalogues_and_dates(self):
        ways = [("p", [("copied", "first", HAND)]), ("q", [("copied", "first", OTHER)]),
                ("x", [("copied", "p", HAND), ("copied", "first", HAND)]), ("y", [("copied", "p", OTHER), ("copied", "q", HAND), ("joined", "x", "q", 1, 1)])]
        finds = [("x", PAGE), ("y", exactly("ab", ["bb"])), ("first", exactly("ab", ["aab", "aabb"]))]
        catalogue = Catalogue("ab", ways, finds)
        pairs = list(explaining(catalogue))
        stands = dict(needs(catalogue))
        for name in catalogue.lost_copies:
            having = [name in dict(stem) for stem, _ in pairs]
            self.assertEqual(stands[name], "must" if all(having) else "may" if any(having) else "never")
            refuted = are_stem_refutations(catalogue, stem_refutations(catalogue, without=name), without=name)
            self.assertIs(refuted, stands[name] == "must")
        number, stem, history = fewest_lost(catalogue)
        self.assertIn((stem, history), pairs)
        self.assertEqual(number, min(len(stem) - 2 for stem, _ in pairs))
        cost, stem, history = cheapest_stem(catalogue)
        self.assertEqual(cost, min(least_cost(stem_family(catalogue, stem)) for stem, _ in pairs))
        self.assertEqual(history, cheapest_history(stem_family(catalogue, stem)))
        word, cases = catalogue_verdict(catalogue, Claim.reads("first", 0, "a"))
        self.assertEqual((word, [stem for stem, _ in cases]), ("sure", list(stems(catalogue))))
        chronicle = [("between", "first", 900, None), ("between", "y", None, 902), ("scribe", ("x", "y"), 0), ("gone", "first", 901)]
        fine = [pair for pair in pairs if dating(stem_family(catalogue, pair[0]), chronicle).possible]
        self.assertEqual(list(dated_explaining(catalogue, chronicle)), fine)
        self.assertEqual([name for name, _ in dated_needs(catalogue, chronicle)], list(catalogue.lost_copies))
        for stem, ring in undatable(catalogue, chronicle):
            self.assertIs(is_ring(stem_family(catalogue, stem), chronicle, ring), True)
        for stem, _ in fine:
            self.check_dates(stem_family(catalogue, stem), chronicle)
        self.assertTrue(0 < len(fine) < len(list(stems(catalogue))))

    def check_dates(self, family, chronicle):
        years = dict(dating(family, chronicle).years)
        self.assertIs(is_dating(family, chronicle, tuple(years.items())), True)
        for one in family.names:
            least, most = year_range(family, chronicle, one)
            self.assertTrue((least is None or least <= years[one]) and (most is None or years[one] <= most))
            for two in family.names:
                gap = sure_gap(family, chronicle, one, two)
                if gap is not None:
                    chain = sure_chain(family, chronicle, one, two)
                    self.assertEqual(sum(bond[2] for bond in chain), gap)
                    self.assertLessEqual(set(chain), set(bonds(family, chronicle)))
                    self.assertGreaterEqual(years[two] - years[one], gap)
                self.assertIs((one, two) in sure_order(family, chronicle), gap is not None and gap >= 1)


if __name__ == "__main__":
    unittest.main()

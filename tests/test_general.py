"""The general rules of points 2 to 4, where no other test has them."""

import unittest

from firsthand.catalogues import Catalogue
from firsthand.choosing import catalogue_verdict, cheapest_stem, fewest_lost
from firsthand.chronicles import bonds
from firsthand.claims import Claim
from firsthand.collations import collation_of, history_showing, told_blocks
from firsthand.confusions import confusion
from firsthand.datedstems import dated_explaining, dated_needs, undatable
from firsthand.datings import dating, is_dating, is_ring
from firsthand.families import Family
from firsthand.familynotes import format_family, parse_family
from firsthand.finds import needless_finds
from firsthand.habitpapers import are_habit_refutations, habit_refutations
from firsthand.habits import greatest_failures, habits, least_choices
from firsthand.hands import Hand
from firsthand.handsets import copies, exemplars
from firsthand.histories import blocks
from firsthand.historynotes import format_history, parse_history
from firsthand.inclusions import include
from firsthand.keeping import fewest_telling, indispensable
from firsthand.ledgers import Ledger, perform
from firsthand.likeness import compare_families, is_likeness_table
from firsthand.marks import holds, mark_after, mark_holds
from firsthand.needs import needs, with_copy
from firsthand.odds import mean_slips, odds, reading_odds
from firsthand.partings import part
from firsthand.prices import is_price_table, prices
from firsthand.profiles import cost_profile, cost_range, slip_range
from firsthand.readings import readings
from firsthand.rebuilding import apparatus
from firsthand.scribes import explains, rehanded
from firsthand.setmaking import exactly, torn
from firsthand.settling import settling
from firsthand.shortening import shortened
from firsthand.standings import follow, is_end, moves, standing_of, start_standing
from firsthand.stempapers import are_stem_refutations, stem_refutations
from firsthand.stems import explaining, is_stem, stem_family
from firsthand.tellings import is_telling_table, telling
from firsthand.textsets import TextSet
from firsthand.tracks import is_full, track_moves
from firsthand.verdicts import is_verdict_table, verdict
from firsthand.walks import histories, is_closed, is_refutation, least_history, reachable, refutation
from firsthand.weights import is_weight_table, total_weight, weights
from firsthand.years import sure_chain, sure_gap, sure_order, year_range
from tests.brute import lists_of, only_tuples


HAND = Hand.of_faults("ab", [("omit", "b", 1), ("double", "a", 2)])
FAMILY = Family("ab").copied("x", "first", HAND).joined("j", "x", "first", most=1).found("x", exactly("ab", ["aa"]))
HISTORY = least_history(FAMILY)
STANDING = standing_of(FAMILY, HISTORY)
CLAIM = Claim.reads("x", 0, "aa") | Claim.shows(["x", "j"], [["a", "a"]])
TABLE = reachable(FAMILY, supposed=CLAIM)
CATALOGUE = Catalogue("ab", [("p", [("copied", "first", HAND)]), ("x", [("copied", "p", HAND)])], [("x", exactly("ab", ["a"]))])
STEM = (("p", 0), ("x", 0))
HOPELESS = CATALOGUE.with_find("first", exactly("ab", [""]))
OMIT, TWICE = ("omit", "b", 1), ("double", "a", 2)
NEEDY = FAMILY.found("first", exactly("ab", ["bb"]))
PAPERS = habit_refutations(NEEDY, ["x"], [OMIT])
TELLING = telling(FAMILY, ["x", "j"], told="x").table
ALIKE = compare_families(FAMILY, FAMILY, ["x", "j"]).table
CHRONICLE = (("between", "x", 3, 7), ("scribe", ("x", "j"), 2), ("after", "x", "j", 1), ("gone", "x", 9))
RING_CHRONICLE = (("after", "x", "first", 0),)
YEARS = (("first", 2), ("x", 3), ("j", 4))
RING = (("x", "first", 1), ("first", "x", 0))

# Calls with one argument that is a sequence.
WITH_SEQUENCES = [
    (lambda given: standing_of(FAMILY, given), HISTORY), (lambda given: shortened(FAMILY, given, ["x"]), HISTORY),
    (lambda given: shortened(FAMILY, HISTORY, given), ("x", "j")), (lambda given: moves(FAMILY, given, "a"), STANDING),
    (lambda given: moves(FAMILY, given, "b"), start_standing(FAMILY)), (lambda given: is_end(FAMILY, given), STANDING),
    (lambda given: follow(FAMILY, given, "a", HISTORY[1][0]), start_standing(FAMILY)),
    (lambda given: follow(FAMILY, start_standing(FAMILY), "a", given), HISTORY[1][0]),
    (lambda given: Claim.shows(given, []).tree, ("x", "j")), (lambda given: Claim.shows(["x"], given).tree, (("a",), ("b",))),
    (lambda given: Claim.of(given).atoms, CLAIM.tree), (lambda given: holds(FAMILY, given, CLAIM), HISTORY),
    (lambda given: mark_after(FAMILY, CLAIM, given, start_standing(FAMILY), "a", HISTORY[1][0]), (0, 0)),
    (lambda given: mark_after(FAMILY, CLAIM, (0, 0), given, "a", HISTORY[1][0]), start_standing(FAMILY)),
    (lambda given: mark_after(FAMILY, CLAIM, (0, 0), start_standing(FAMILY), "a", given), HISTORY[1][0]),
    (lambda given: mark_holds(CLAIM, given), (1, None)), (lambda given: track_moves(FAMILY, CLAIM, given, "a"), TABLE[0]),
    (lambda given: is_full(FAMILY, CLAIM, given), TABLE[-1]), (lambda given: is_closed(FAMILY, given, supposed=CLAIM), TABLE),
    (lambda given: is_refutation(FAMILY, given, supposed=CLAIM), TABLE),
    (lambda given: is_verdict_table(FAMILY, CLAIM, "sure", given), TABLE),
    (lambda given: is_price_table(FAMILY, given, 0), prices(FAMILY)),
    (lambda given: Catalogue("ab", given, []).entries, CATALOGUE.entries),
    (lambda given: Catalogue("ab", CATALOGUE.entries, given).finds, CATALOGUE.finds),
    (lambda given: CATALOGUE.with_way("x", given).entries, ("joined", "first", "p", None, 2)),
    (lambda given: is_stem(CATALOGUE, given), STEM), (lambda given: stem_family(CATALOGUE, given).names, STEM),
    (lambda given: are_stem_refutations(HOPELESS, given), stem_refutations(HOPELESS)),
    (lambda given: collation_of(FAMILY, given, ["x", "j"]), HISTORY), (lambda given: collation_of(FAMILY, HISTORY, given), ("x", "j")),
    (lambda given: history_showing(FAMILY, given, [["aa"]]), ("x",)), (lambda given: history_showing(FAMILY, ["x"], given), (("aa",),)),
    (lambda given: told_blocks(FAMILY, given, [["aa"]]), ("x",)), (lambda given: told_blocks(FAMILY, ["x"], given), (("aa",),)),
    (lambda given: vars(telling(FAMILY, given)), ("x", "j")), (lambda given: is_telling_table(FAMILY, given, TELLING), ("x", "j")),
    (lambda given: is_telling_table(FAMILY, ["x", "j"], given), TELLING), (lambda given: fewest_telling(FAMILY, given), ("j", "x")),
    (lambda given: indispensable(FAMILY, given), ("j", "x")), (lambda given: vars(compare_families(FAMILY, FAMILY, given)), ("x", "j")),
    (lambda given: is_likeness_table(FAMILY, FAMILY, given, ALIKE), ("x", "j")),
    (lambda given: is_likeness_table(FAMILY, FAMILY, ["x", "j"], given), ALIKE), (lambda given: format_history(given), HISTORY),
    (lambda given: rehanded(FAMILY, given, HAND).names, ("x",)), (lambda given: explains(FAMILY, given, [OMIT], (0,)), ("x",)),
    (lambda given: explains(FAMILY, ["x"], given, (0,)), (OMIT,)), (lambda given: explains(FAMILY, ["x"], [OMIT], given), (0,)),
    (lambda given: least_choices(FAMILY, given, [OMIT]), ("x",)), (lambda given: least_choices(FAMILY, ["x"], given), (OMIT, TWICE)),
    (lambda given: greatest_failures(FAMILY, given, [OMIT]), ("x",)), (lambda given: greatest_failures(FAMILY, ["x"], given), (OMIT, TWICE)),
    (lambda given: habits(FAMILY, given, [OMIT]), ("x",)), (lambda given: habits(FAMILY, ["x"], given), (OMIT, TWICE)),
    (lambda given: habit_refutations(NEEDY, given, [OMIT]), ("x",)), (lambda given: habit_refutations(NEEDY, ["x"], given), (OMIT,)),
    (lambda given: are_habit_refutations(NEEDY, given, [OMIT], (), PAPERS), ("x",)),
    (lambda given: are_habit_refutations(NEEDY, ["x"], given, (), PAPERS), (OMIT,)),
    (lambda given: are_habit_refutations(NEEDY, ["x"], [OMIT], given, ()), ((0,), ())),
    (lambda given: are_habit_refutations(NEEDY, ["x"], [OMIT], (), given), PAPERS),
    (lambda given: is_weight_table(FAMILY, given, spread=9), weights(FAMILY, spread=9)),
    (lambda given: bonds(FAMILY, given), CHRONICLE), (lambda given: vars(dating(FAMILY, given)), CHRONICLE),
    (lambda given: is_dating(FAMILY, given, YEARS), CHRONICLE), (lambda given: is_dating(FAMILY, CHRONICLE, given), YEARS),
    (lambda given: is_ring(FAMILY, given, RING), (("after", "x", "first", 0),)), (lambda given: is_ring(FAMILY, [("after", "x", "first", 0)], given), RING),
    (lambda given: year_range(FAMILY, given, "x"), CHRONICLE), (lambda given: sure_gap(FAMILY, given, "x", "j"), CHRONICLE),
    (lambda given: sure_chain(FAMILY, given, "x", "j"), CHRONICLE), (lambda given: sure_order(FAMILY, given), CHRONICLE),
    (lambda given: tuple(dated_explaining(CATALOGUE, given)), CHRONICLE), (lambda given: dated_needs(CATALOGUE, given), CHRONICLE),
    (lambda given: undatable(CATALOGUE, given), CHRONICLE),
]


class SequencesTest(unittest.TestCase):
    def test_lists_and_tuples(self):
        for ask, given in WITH_SEQUENCES:
            passed = lists_of(given)
            answer = ask(passed)
            self.assertEqual(answer, ask(given))
            self.assertEqual(passed, lists_of(given))
            self.assertTrue(only_tuples(answer), answer)
            self.assertNotIsInstance(answer, list)

    def test_answers_are_tuples(self):
        answers = [
            start_standing(FAMILY), TABLE, HISTORY, tuple(histories(FAMILY, places=2)), readings(FAMILY, "x", 0), prices(FAMILY),
            apparatus(FAMILY, "x"), cost_profile(FAMILY, places=2), cost_range(FAMILY), slip_range(FAMILY, "x"), with_copy(CATALOGUE, "p"),
            needs(CATALOGUE), needless_finds(FAMILY, CLAIM), settling(FAMILY, "x", CLAIM), next(explaining(CATALOGUE)),
            refutation(FAMILY, supposed=CLAIM & ~CLAIM), verdict(FAMILY, CLAIM | ~CLAIM).table, CATALOGUE.lost_copies,
            fewest_lost(CATALOGUE), cheapest_stem(CATALOGUE), catalogue_verdict(CATALOGUE, Claim.slips("x", 0)), parse_history("a a,0 -\nb 1 -"),
            odds(FAMILY, CLAIM, spread=9), reading_odds(FAMILY, "x", 0, spread=9), mean_slips(FAMILY, "x", spread=9),
            total_weight(FAMILY, spread=9),
        ]
        for answer in answers:
            self.assertIsInstance(answer, tuple)
            self.assertTrue(only_tuples(answer), answer)

    def test_objects_that_are_returned(self):
        answers = [telling(FAMILY, ["x"], told="j"), compare_families(FAMILY, NEEDY, ["x"]), dating(FAMILY, CHRONICLE), dating(FAMILY, RING_CHRONICLE)]
        for answer in answers:
            for field in vars(answer).values():
                self.assertTrue(only_tuples(field), field)

    def test_ledgers_and_families_stay_as_they_were(self):
        before = (FAMILY.names, FAMILY.making("x"), FAMILY.kept("x").form)
        rehanded(FAMILY, ["x"], Hand.faithful("ab"))
        parse_family(format_family(FAMILY))
        self.assertEqual((FAMILY.names, FAMILY.making("x"), FAMILY.kept("x").form), before)


class GeneralTest(unittest.TestCase):
    def test_asking_again_gives_the_same(self):
        hand = Hand.of_faults("ab", [("omit", "b", 1), ("turn", "a", "b", 2)], limit=2)
        other = hand | Hand.faithful("ab")
        texts = torn("ab", "a*b?")
        family = Family("ab").copied("x", "first", hand).found("x", texts)
        asks = [
            lambda: copies(hand, texts).form, lambda: exemplars(hand, texts).form, lambda: part(hand, other).table,
            lambda: vars(confusion(hand)), lambda: include(texts, ~exactly("ab", ["ab"])).table, lambda: (hand >> hand).rules,
            lambda: family.names, lambda: family.making("x"), lambda: family.kept("x").form, lambda: hand.strokes,
        ]
        for ask in asks:
            self.assertEqual(ask(), ask())

    def test_whole_answers_are_tuples(self):
        hand = Hand("ab", [[0, "a", "b", 1, 0]], [0])
        family = Family("ab").copied("x", "first", hand)
        answers = [
            hand.rules, hand.ends, hand.strokes, family.names, family.made, family.making("x"), family.users("x"),
            blocks(family, ["a", [[[["b", 1]]]]]), TextSet("a", [[True, [0]]]).form,
            perform(Ledger(family), [["enter", ["lost", "x"]]] if family.kept("x") else [["see"]]),
        ]
        for answer in answers:
            self.assertIsInstance(answer, tuple)
            self.assertTrue(only_tuples(answer), answer)

    def test_makings_and_deeds_do_not_share_lists(self):
        deed = ["joined", "y", "first", "first", None, 1]
        ledger = Ledger(Family("ab"))
        ledger.enter(deed)
        deed[2] = "x"
        self.assertEqual(ledger.known.making("y"), ("joined", "first", "first", None, 1))
        self.assertEqual(ledger.deeds, (("joined", "y", "first", "first", None, 1),))

    def test_true_and_false_are_the_two_values(self):
        form = TextSet("ab", lists_of(((True, (0, None)),))).form
        self.assertIs(form[0][0], True)
        made = (torn("ab", "a*") + exactly("ab", ["b"])).form
        self.assertTrue(all(type(ends) is bool for ends, _ in made))

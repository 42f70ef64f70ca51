"""The general rules of points 2 to 4, where no other test has them."""

import unittest

from firsthand.catalogues import Catalogue
from firsthand.claims import Claim
from firsthand.confusions import confusion
from firsthand.families import Family
from firsthand.finds import needless_finds
from firsthand.hands import Hand
from firsthand.handsets import copies, exemplars
from firsthand.histories import blocks
from firsthand.inclusions import include
from firsthand.ledgers import Ledger, perform
from firsthand.marks import holds, mark_after, mark_holds
from firsthand.needs import needs, with_copy
from firsthand.partings import part
from firsthand.prices import is_price_table, prices
from firsthand.profiles import cost_profile, cost_range, slip_range
from firsthand.readings import readings
from firsthand.rebuilding import apparatus
from firsthand.setmaking import exactly, torn
from firsthand.settling import settling
from firsthand.shortening import shortened
from firsthand.standings import follow, is_end, moves, standing_of, start_standing
from firsthand.stems import explaining, is_stem, stem_family
from firsthand.textsets import TextSet
from firsthand.tracks import is_full, track_moves
from firsthand.verdicts import is_verdict_table, verdict
from firsthand.walks import histories, is_closed, is_refutation, least_history, reachable, refutation
from tests.brute import lists_of, only_tuples


HAND = Hand.of_faults("ab", [("omit", "b", 1), ("double", "a", 2)])
FAMILY = Family("ab").copied("x", "first", HAND).joined("j", "x", "first", most=1).found("x", exactly("ab", ["aa"]))
HISTORY = least_history(FAMILY)
STANDING = standing_of(FAMILY, HISTORY)
CLAIM = Claim.reads("x", 0, "aa") | Claim.shows(["x", "j"], [["a", "a"]])
TABLE = reachable(FAMILY, supposed=CLAIM)
CATALOGUE = Catalogue("ab", [("p", [("copied", "first", HAND)]), ("x", [("copied", "p", HAND)])], [("x", exactly("ab", ["a"]))])
STEM = (("p", 0), ("x", 0))

# Calls with one argument that is a sequence.
WITH_SEQUENCES = [
    (lambda given: standing_of(FAMILY, given), HISTORY), (lambda given: shortened(FAMILY, given, ["x"]), HISTORY),
    (lambda given: shortened(FAMILY, HISTORY, given), ("x", "j")), (lambda given: moves(FAMILY, given, "a"), STANDING),
    (lambda given: moves(FAMILY, given, "b"), start_standing(FAMILY)), (lambda given: is_end(FAMILY, given), STANDING),
    (lambda given: follow(FAMILY, given, "a", HISTORY[1][0]), start_standing(FAMILY)),
    (lambda given: follow(FAMILY, start_standing(FAMILY), "a", given), HISTORY[1][0]),
    (lambda given: Claim.shows(given, []).tree, ("x", "j")), (lambda given: Claim.shows(["x"], given).tree, (("a",), ("b",))),
    (lambda given: Claim.of(given).atoms, CLAIM.tree), (lambda given: holds(FAMILY, given, CLAIM), HISTORY),
    (lambda given: mark_after(FAMILY, CLAIM, given, start_standing(FAMILY), "a", HISTORY[1][0]), (0, 0)),
    (lambda given: mark_after(FAMILY, CLAIM, (0, 0), given, "a", HISTORY[1][0]), start_standing(FAMILY)),
    (lambda given: mark_after(FAMILY, CLAIM, (0, 0), start_standing(FAMILY), "a", given), HISTORY[1][0]),
    (lambda given: mark_holds(CLAIM, given), (1, None)), (lambda given: track_moves(FAMILY, CLAIM, given, "a"), TABLE[0]),
    (lambda given: is_full(FAMILY, CLAIM, given), TABLE[-1]), (lambda given: is_closed(FAMILY, given, supposed=CLAIM), TABLE),
    (lambda given: is_refutation(FAMILY, given, supposed=CLAIM), TABLE),
    (lambda given: is_verdict_table(FAMILY, CLAIM, "sure", given), TABLE),
    (lambda given: is_price_table(FAMILY, given, 0), prices(FAMILY)),
    (lambda given: Catalogue("ab", given, []).entries, CATALOGUE.entries),
    (lambda given: Catalogue("ab", CATALOGUE.entries, given).finds, CATALOGUE.finds),
    (lambda given: CATALOGUE.with_way("x", given).entries, ("joined", "first", "p", None, 2)),
    (lambda given: is_stem(CATALOGUE, given), STEM), (lambda given: stem_family(CATALOGUE, given).names, STEM),
]


class SequencesTest(unittest.TestCase):
    def test_lists_and_tuples(self):
        for ask, given in WITH_SEQUENCES:
            passed = lists_of(given)
            answer = ask(passed)
            self.assertEqual(answer, ask(given))
            self.assertEqual(passed, lists_of(given))
            self.assertTrue(only_tuples(answer), answer)
            self.assertNotIsInstance(answer, list)

    def test_answers_are_tuples(self):
        answers = [
            start_standing(FAMILY), TABLE, HISTORY, tuple(histories(FAMILY, places=2)), readings(FAMILY, "x", 0), prices(FAMILY),
            apparatus(FAMILY, "x"), cost_profile(FAMILY, places=2), cost_range(FAMILY), slip_range(FAMILY, "x"), with_copy(CATALOGUE, "p"),
            needs(CATALOGUE), needless_finds(FAMILY, CLAIM), settling(FAMILY, "x", CLAIM), next(explaining(CATALOGUE)),
            refutation(FAMILY, supposed=CLAIM & ~CLAIM), verdict(FAMILY, CLAIM | ~CLAIM).table, CATALOGUE.lost_copies,
        ]
        for answer in answers:
            self.assertIsInstance(answer, tuple)
            self.assertTrue(only_tuples(answer), answer)


class GeneralTest(unittest.TestCase):
    def test_asking_again_gives_the_same(self):
        hand = Hand.of_faults("ab", [("omit", "b", 1), ("turn", "a", "b", 2)], limit=2)
        other = hand | Hand.faithful("ab")
        texts = torn("ab", "a*b?")
        family = Family("ab").copied("x", "first", hand).found("x", texts)
        asks = [
            lambda: copies(hand, texts).form, lambda: exemplars(hand, texts).form, lambda: part(hand, other).table,
            lambda: vars(confusion(hand)), lambda: include(texts, ~exactly("ab", ["ab"])).table, lambda: (hand >> hand).rules,
            lambda: family.names, lambda: family.making("x"), lambda: family.kept("x").form, lambda: hand.strokes,
        ]
        for ask in asks:
            self.assertEqual(ask(), ask())

    def test_whole_answers_are_tuples(self):
        hand = Hand("ab", [[0, "a", "b", 1, 0]], [0])
        family = Family("ab").copied("x", "first", hand)
        answers = [
            hand.rules, hand.ends, hand.strokes, family.names, family.made, family.making("x"), family.users("x"),
            blocks(family, ["a", [[[["b", 1]]]]]), TextSet("a", [[True, [0]]]).form,
            perform(Ledger(family), [["enter", ["lost", "x"]]] if family.kept("x") else [["see"]]),
        ]
        for answer in answers:
            self.assertIsInstance(answer, tuple)
            self.assertTrue(only_tuples(answer), answer)

    def test_makings_and_deeds_do_not_share_lists(self):
        deed = ["joined", "y", "first", "first", None, 1]
        ledger = Ledger(Family("ab"))
        ledger.enter(deed)
        deed[2] = "x"
        self.assertEqual(ledger.known.making("y"), ("joined", "first", "first", None, 1))
        self.assertEqual(ledger.deeds, (("joined", "y", "first", "first", None, 1),))

    def test_true_and_false_are_the_two_values(self):
        form = TextSet("ab", lists_of(((True, (0, None)),))).form
        self.assertIs(form[0][0], True)
        made = (torn("ab", "a*") + exactly("ab", ["b"])).form
        self.assertTrue(all(type(ends) is bool for ends, _ in made))

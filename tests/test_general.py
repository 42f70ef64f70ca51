"""The general rules of points 2 to 4, where no other test has them."""

import unittest

from firsthand.confusions import confusion
from firsthand.families import Family
from firsthand.hands import Hand
from firsthand.handsets import copies, exemplars
from firsthand.histories import blocks
from firsthand.inclusions import include
from firsthand.ledgers import Ledger, perform
from firsthand.partings import part
from firsthand.setmaking import exactly, torn
from firsthand.textsets import TextSet
from tests.brute import lists_of, only_tuples


class GeneralTest(unittest.TestCase):
    def test_asking_again_gives_the_same(self):
        hand = Hand.of_faults("ab", [("omit", "b", 1), ("turn", "a", "b", 2)], limit=2)
        other = hand | Hand.faithful("ab")
        texts = torn("ab", "a*b?")
        family = Family("ab").copied("x", "first", hand).found("x", texts)
        asks = [
            lambda: copies(hand, texts).form, lambda: exemplars(hand, texts).form, lambda: part(hand, other).table,
            lambda: vars(confusion(hand)), lambda: include(texts, ~exactly("ab", ["ab"])).table, lambda: (hand >> hand).rules,
            lambda: family.names, lambda: family.making("x"), lambda: family.kept("x").form, lambda: hand.strokes,
        ]
        for ask in asks:
            self.assertEqual(ask(), ask())

    def test_whole_answers_are_tuples(self):
        hand = Hand("ab", [[0, "a", "b", 1, 0]], [0])
        family = Family("ab").copied("x", "first", hand)
        answers = [
            hand.rules, hand.ends, hand.strokes, family.names, family.made, family.making("x"), family.users("x"),
            blocks(family, ["a", [[[["b", 1]]]]]), TextSet("a", [[True, [0]]]).form,
            perform(Ledger(family), [["enter", ["lost", "x"]]] if family.kept("x") else [["see"]]),
        ]
        for answer in answers:
            self.assertIsInstance(answer, tuple)
            self.assertTrue(only_tuples(answer), answer)

    def test_makings_and_deeds_do_not_share_lists(self):
        deed = ["joined", "y", "first", "first", None, 1]
        ledger = Ledger(Family("ab"))
        ledger.enter(deed)
        deed[2] = "x"
        self.assertEqual(ledger.known.making("y"), ("joined", "first", "first", None, 1))
        self.assertEqual(ledger.deeds, (("joined", "y", "first", "first", None, 1),))

    def test_true_and_false_are_the_two_values(self):
        form = TextSet("ab", lists_of(((True, (0, None)),))).form
        self.assertIs(form[0][0], True)
        made = (torn("ab", "a*") + exactly("ab", ["b"])).form
        self.assertTrue(all(type(ends) is bool for ends, _ in made))

"""Point 70."""

import inspect
import unittest

from firsthand.claims import Claim
from firsthand.courses import course
from firsthand.families import Family
from firsthand.hands import Hand
from firsthand.ledgers import Ledger, Supposing, Trial
from firsthand.setmaking import everything, exactly, nothing, torn

FAITHFUL = Hand.faithful("ab")
BEGINS = Claim.reads("first", 0, "a")


def long_ledger():
    ledger = Ledger(Family("ab"))
    for deed in (
        ("copied", "x", "first", FAITHFUL), ("found", "x", torn("ab", "a*")), ("copied", "y", "x", FAITHFUL),
        ("found", "y", torn("ab", "b*")), ("lost", "x"), ("lost", "y"), ("without", "y"),
    ):
        ledger.enter(deed)
    return ledger


class CourseTest(unittest.TestCase):
    def test_words(self):
        ledger = long_ledger()
        words = ["open", "open", "sure", "sure", "no history", "never", "open", "open"]
        self.assertEqual(list(course(ledger, BEGINS)), words)
        self.assertEqual(len(words), len(ledger.deeds) + 1)
        self.assertTrue(inspect.isgeneratorfunction(course))

    def test_no_deeds(self):
        self.assertEqual(list(course(Ledger(Family("ab")), BEGINS)), ["open"])
        family = Family("ab").found("first", nothing("ab"))
        self.assertEqual(list(course(Ledger(family), BEGINS)), ["no history"])
        self.assertEqual(list(course(Ledger(family), Claim.slips("q", 0))), [None])

    def test_none_where_the_claim_does_not_fit(self):
        ledger = long_ledger()
        self.assertEqual(list(course(ledger, Claim.reads("x", 0, "a"))), [None, "open", "sure", "sure", "no history", "never", "open", "open"])
        self.assertEqual(list(course(ledger, BEGINS | Claim.slips("y", 0))), [None] * 3 + ["sure", "no history"] + ["sure"] * 2 + [None])
        self.assertEqual(list(course(ledger, Claim.lies("x", everything("abc")))), [None] * 8)

    def test_deeds_that_were_undone(self):
        ledger = long_ledger()
        for _ in range(5):
            ledger.undo()
        self.assertEqual(list(course(ledger, BEGINS)), ["open", "open", "sure"])

    def test_without_suppositions(self):
        ledger = Ledger(Family("ab"))
        with Supposing(ledger, "first", exactly("ab", ["b"])) as same:
            self.assertEqual(list(course(same, BEGINS)), ["open"])
            ledger.enter(("found", "first", torn("ab", "a*")))
            self.assertEqual(list(course(ledger, BEGINS)), ["open", "sure"])
            with Trial(ledger):
                ledger.enter(("lost", "first"))
                self.assertEqual(list(course(ledger, BEGINS)), ["open", "sure", "open"])
        self.assertEqual(list(course(ledger, BEGINS)), ["open", "sure"])

    def test_ledger_is_not_changed(self):
        ledger = long_ledger()
        deeds, known = ledger.deeds, ledger.known
        for _ in course(ledger, BEGINS):
            self.assertEqual((ledger.deeds, ledger.known, ledger.family), (deeds, known, known))
        self.assertEqual(ledger.began, Family("ab"))
        self.assertEqual(list(course(ledger, BEGINS)), list(course(ledger, BEGINS)))

    def test_looks_when_the_first_word_is_asked_for(self):
        ledger = Ledger(Family("ab"))
        words = course(ledger, BEGINS)
        ledger.enter(("found", "first", torn("ab", "a*")))
        self.assertEqual(list(words), ["open", "sure"])


if __name__ == "__main__":
    unittest.main()

"""Points 65 and 66."""

import collections
import random
import unittest

from firsthand.claims import Claim
from firsthand.families import Family
from firsthand.hands import Hand
from firsthand.setmaking import everything, exactly, lengths, nothing, torn
from firsthand.verdicts import is_verdict_table, verdict
from firsthand.walks import histories, reachable
from tests.brute import lists_of, only_tuples
from tests.worlds import as_history, keeps, looked_at, random_worlds

HAND = Hand.of_faults("ab", [("omit", "b", 1), ("double", "a", 2)])
FAMILY = Family("ab").copied("x", "first", HAND).found("x", exactly("ab", ["aa"]))
WORDS = ("sure", "never", "no history")


def word_for(keeping, breaking):
    return {(1, 0): "sure", (0, 1): "never", (1, 1): "open", (0, 0): "no history"}[bool(keeping), bool(breaking)]


class VerdictTest(unittest.TestCase):
    def check(self, claim, word, keeping, breaking, supposed=None, family=FAMILY):
        found = verdict(family, claim, supposed=supposed)
        self.assertEqual(found.word, word)
        for history, first in ((found.keeping, keeping), (found.breaking, breaking)):
            self.assertEqual(None if history is None else history[0], first)
        joint = claim if supposed is None else supposed & claim
        table = () if word == "open" else reachable(family, supposed=joint)
        self.assertEqual(found.table, table)
        self.assertTrue(only_tuples((found.keeping, found.breaking, found.table)))
        for other in WORDS:
            if word != "open":
                shown = other == word or word == "no history"
                for passed in (table, lists_of(table[::-1] + table[:1])):
                    self.assertIs(is_verdict_table(family, claim, other, passed, supposed=supposed), shown)

    def test_four_words(self):
        self.check(Claim.lies("first", torn("ab", "*a*")), "sure", "a", None)
        self.check(Claim.reads("x", 0, "b"), "never", None, "a")
        self.check(Claim.reads("first", 0, "a"), "open", "a", "ba")
        self.check(Claim.costs(99), "no history", None, None, family=FAMILY.found("first", exactly("ab", ["b"])))
        self.check(Claim.costs(99), "no history", None, None, family=FAMILY.found("first", nothing("ab")))

    def test_four_words_with_a_supposition(self):
        plain = Claim.slips("x", 0)
        self.check(Claim.lies("first", exactly("ab", ["aa"])), "sure", "aa", None, supposed=plain)
        self.check(Claim.reads("first", 0, "b"), "never", None, "aa", supposed=plain)
        self.check(Claim.reads("first", 0, "a"), "open", "aa", "baa", supposed=Claim.costs(1))
        self.check(Claim.costs(99), "no history", None, None, supposed=plain & ~plain)

    def test_joint_claim_may_be_large(self):
        many = Claim.slips("x", 9)
        for _ in range(5):
            many = many & Claim.costs(99)
        self.check(many, "open", "a", "a" + "b" * 9, supposed=many | ~many)

    def test_words_of_the_document(self):
        """The first text has at most three letters, so all histories are seen."""
        words = collections.Counter()
        for family, claim, supposed in random_worlds(65, 150):
            family = family.found("first", lengths(family.alphabet, 0, 3))
            found = looked_at(family, 3, supposed)
            keeping = [as_history(was) for was in found if keeps(family, was, claim)]
            breaking = [as_history(was) for was in found if not keeps(family, was, claim)]
            answer = verdict(family, claim, supposed=supposed)
            self.assertEqual(answer.word, word_for(keeping, breaking))
            self.assertEqual((answer.keeping, answer.breaking), ((keeping or [None])[0], (breaking or [None])[0]))
            joint = claim if supposed is None else supposed & claim
            table = reachable(family, supposed=joint)
            self.assertEqual(answer.table, () if keeping and breaking else table)
            shown = {"sure": not breaking, "never": not keeping, "no history": not keeping and not breaking}
            for word in WORDS:
                self.assertIs(is_verdict_table(family, claim, word, table, supposed=supposed), shown[word])
            words[answer.word, supposed is None] += 1
        self.assertEqual(len(words), 8, words)
        self.assertGreater(min(words.values()), 2)

    def test_infinitely_many_histories(self):
        for family, claim, supposed in random_worlds(650, 60, places=2, most=400, atoms=2):
            answer = verdict(family, claim, supposed=supposed)
            joint = claim if supposed is None else supposed & claim
            other = ~claim if supposed is None else supposed & ~claim
            for history, asked in ((answer.keeping, joint), (answer.breaking, other)):
                for first in histories(family, places=5, supposed=asked):
                    self.assertEqual(history, first)
                    break


class TableTest(unittest.TestCase):
    def test_one_track_too_few(self):
        rand = random.Random(66)
        for claim, word in ((Claim.lies("first", torn("ab", "*a*")), "sure"), (Claim.reads("x", 0, "b"), "never")):
            table = verdict(FAMILY, claim).table
            for track in table:
                rest = [other for other in table if other != track]
                self.assertIs(is_verdict_table(FAMILY, claim, word, rest), False)
            self.assertIs(is_verdict_table(FAMILY, claim, word, rand.sample(table, len(table)) * 2), True)
        self.assertIs(is_verdict_table(FAMILY, Claim.costs(0), "sure", []), False)
        self.assertIs(is_verdict_table(FAMILY.found("x", nothing("ab")), Claim.costs(0), "no history", []), True)

    def test_more_tracks_than_needed(self):
        claim = Claim.costs(0) | Claim.slips("x", 9)
        supposed = Claim.slips("x", 0)
        table = verdict(FAMILY, claim, supposed=supposed).table
        self.assertIs(is_verdict_table(FAMILY, claim, "sure", table, supposed=supposed), True)
        # No beginning leads to this full track. It breaks the claim, but it is looked at only if the supposition holds in it.
        odd = (((0,), (None, 2)), (0, 1, 10))
        after = (((0,), (None, 2)), (1, 1, 10))
        self.assertIs(is_verdict_table(FAMILY, claim, "sure", table + (odd, after), supposed=supposed), False)
        self.assertIs(is_verdict_table(FAMILY, claim, "sure", table + (after,), supposed=supposed), True)
        self.assertIs(is_verdict_table(FAMILY, claim, "never", table + (after,), supposed=supposed), False)

    def test_tracks_that_are_no_ends(self):
        family = Family("ab").found("first", lengths("ab", 2, 2))
        claim = Claim.lies("first", exactly("ab", ["ab", "ba", "aa", "bb"]))
        table = verdict(family, claim).table
        self.assertIs(is_verdict_table(family, claim, "sure", table), True)
        self.assertIs(is_verdict_table(family, claim, "no history", table), False)
        never = ~Claim.lies("first", everything("ab"))
        self.assertEqual(verdict(family, never).word, "never")
        self.assertIs(is_verdict_table(family, never, "never", verdict(family, never).table), True)


if __name__ == "__main__":
    unittest.main()

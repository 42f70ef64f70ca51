"""Point 68."""

import unittest

from firsthand.claims import Claim
from firsthand.families import Family
from firsthand.hands import Hand
from firsthand.possible import possible
from firsthand.setasking import members, total_count
from firsthand.setmaking import everything, exactly, lengths, nothing
from firsthand.settling import decides, settling
from tests.brute import all_texts
from tests.worlds import keeps, looked_at, random_worlds, text_in

HAND = Hand.of_faults("ab", [("omit", "b", 1), ("double", "a", 2)])
FAMILY = Family("ab").copied("x", "first", HAND)
EMPTY = nothing("ab")


class SettlingTest(unittest.TestCase):
    def test_first_text_settles_claims_about_itself(self):
        claim = Claim.reads("first", 0, "a")
        self.assertEqual(settling(FAMILY, "first", claim), (a_first(), everything("ab") - a_first(), EMPTY))
        self.assertIs(decides(FAMILY, "first", claim), True)

    def test_copy(self):
        family = FAMILY.found("first", exactly("ab", ["a", "ab", "b", ""]))
        sure, never, both = settling(family, "x", Claim.reads("first", 0, "a"))
        self.assertEqual((sure, never, both), (exactly("ab", ["a", "ab", "aa", "aab"]), exactly("ab", ["b", ""]), EMPTY))
        self.assertIs(decides(family, "x", Claim.reads("first", 0, "a")), True)
        sure, never, both = settling(family, "x", Claim.reads("first", 1, "b"))
        self.assertEqual((sure, never, both), (exactly("ab", ["ab", "aab"]), exactly("ab", ["b", ""]), exactly("ab", ["a", "aa"])))
        self.assertIs(decides(family, "x", Claim.reads("first", 1, "b")), False)

    def test_sure_and_never_claims(self):
        self.assertEqual(settling(FAMILY, "x", Claim.slips("first", 0)), (possible(FAMILY, "x"), EMPTY, EMPTY))
        self.assertEqual(settling(FAMILY, "x", ~Claim.slips("first", 0)), (EMPTY, possible(FAMILY, "x"), EMPTY))
        self.assertIs(decides(FAMILY, "x", Claim.slips("first", 0)), True)

    def test_supposed(self):
        claim, plain = Claim.reads("first", 0, "b"), Claim.costs(0)
        self.assertIs(decides(FAMILY, "x", claim), False)
        self.assertIs(decides(FAMILY, "x", claim, supposed=plain), True)
        self.assertEqual(settling(FAMILY, "x", claim, supposed=plain), (b_first(), everything("ab") - b_first(), EMPTY))

    def test_nothing_is_looked_at(self):
        claim = Claim.costs(3)
        for family in (FAMILY.found("x", EMPTY), FAMILY.found("x", exactly("ab", ["b"])).found("first", exactly("ab", ["a"]))):
            self.assertEqual(settling(family, "x", claim), (EMPTY, EMPTY, EMPTY))
            self.assertIs(decides(family, "first", claim), True)
        self.assertEqual(settling(FAMILY, "first", claim, supposed=claim & ~claim), (EMPTY, EMPTY, EMPTY))
        self.assertIs(decides(FAMILY, "first", claim, supposed=claim & ~claim), True)

    def test_words_of_the_document(self):
        """The first text has at most three letters, so all histories are seen."""
        decided = set()
        for family, claim, supposed in random_worlds(68, 80):
            family = family.found("first", lengths(family.alphabet, 0, 3))
            found = looked_at(family, 3, supposed)
            for name in family.names:
                keeping = {text_in(was, name) for was in found if keeps(family, was, claim)}
                breaking = {text_in(was, name) for was in found if not keeps(family, was, claim)}
                answer = settling(family, name, claim, supposed=supposed)
                self.assertIsInstance(answer, tuple)
                expected = (keeping - breaking, breaking - keeping, keeping & breaking)
                for texts, right in zip(answer, expected):
                    self.assertEqual(total_count(texts), len(right))
                    self.assertTrue(all(text in texts for text in right))
                self.assertIs(decides(family, name, claim, supposed=supposed), not expected[2])
                decided.add(tuple(map(bool, expected)))
        self.assertGreater(len(decided), 5)

    def test_infinitely_many_histories(self):
        for family, claim, supposed in random_worlds(680, 40, places=2, most=400, atoms=2):
            joint = claim if supposed is None else supposed & claim
            other = ~claim if supposed is None else supposed & ~claim
            name = family.names[-1]
            keeping, breaking = possible(family, name, supposed=joint), possible(family, name, supposed=other)
            sure, never, both = settling(family, name, claim, supposed=supposed)
            for text in all_texts(family.alphabet, 5):
                self.assertIs(text in sure, text in keeping and text not in breaking)
                self.assertIs(text in never, text in breaking and text not in keeping)
                self.assertIs(text in both, text in breaking and text in keeping)
            self.assertEqual(list(members(sure & never, longest=4)), [])


def a_first():
    return exactly("ab", ["a"]) + everything("ab")


def b_first():
    return exactly("ab", ["b"]) + everything("ab")


if __name__ == "__main__":
    unittest.main()

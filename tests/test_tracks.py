"""Point 59."""

import unittest

from firsthand.claims import Claim
from firsthand.families import Family
from firsthand.hands import Hand
from firsthand.setmaking import exactly, nothing, torn
from firsthand.standings import moves
from firsthand.tracks import is_full, start_track, track_moves
from tests.brute import lists_of, only_tuples
from tests.worlds import beginnings, continued, keeps, may_end, random_worlds, track_told

HAND = Hand.of_faults("ab", [("omit", "b", 1), ("double", "a", 2)])
FAMILY = Family("ab").copied("x", "first", HAND).found("x", exactly("ab", ["aa"]))
CLAIM = Claim.reads("x", 0, "aa") & ~Claim.costs(1)


class TracksTest(unittest.TestCase):
    def test_start(self):
        self.assertEqual(start_track(FAMILY, None), (((0,), (None, 0)), ()))
        self.assertEqual(start_track(FAMILY, CLAIM), (((0,), (None, 0)), (0, 0)))
        self.assertEqual(start_track(FAMILY, Claim.lies("x", nothing("ab"))), (((0,), (None, 0)), (None,)))
        for claim in (None, CLAIM):
            self.assertIsNone(start_track(FAMILY.found("x", torn("ab", "b*")), claim))

    def test_moves(self):
        track = (((0,), (None, 0)), (0, 0))
        expected = (
            (((("a", 0),),), 0, (((0,), (None, 1)), (2, 0))), (((("aa", 2),),), 2, (((0,), (None, 2)), (1, 2))),
        )
        for passed in (track, lists_of(track)):
            found = track_moves(FAMILY, CLAIM, passed, "a")
            self.assertEqual(found, expected)
            self.assertTrue(only_tuples(found))
        without = track_moves(FAMILY, None, (track[0], ()), "a")
        self.assertEqual(without, tuple((column, cost, (after, ())) for column, cost, after in moves(FAMILY, track[0], "a")))
        self.assertEqual(track_moves(FAMILY, CLAIM, (((0,), (None, 2)), (1, 2)), "a"), ())

    def test_tracks_that_belong_to_no_beginning(self):
        found = track_moves(FAMILY, CLAIM, (((0,), (None, 1)), (1, 0)), "a")
        self.assertEqual(found, ((((("a", 0),),), 0, (((0,), (None, 2)), (1, 0))),))

    def test_full(self):
        for kept, mark, answer in ((2, (1, 2), True), (1, (1, 2), False), (2, (2, 2), False), (2, (1, 1), False), (2, (0, 2), False)):
            track = (((0,), (None, kept)), mark)
            self.assertIs(is_full(FAMILY, CLAIM, track), answer)
            self.assertIs(is_full(FAMILY, CLAIM, lists_of(track)), answer)
        for kept in range(3):
            self.assertIs(is_full(FAMILY, None, (((0,), (None, kept)), ())), kept == 2)
        hand = Hand("ab", [(0, "a", "a", 0, 1)], [1])
        family = Family("ab").copied("x", "first", hand)
        self.assertIs(is_full(family, Claim.costs(0), (((0,), (None, None)), (0,))), False)
        self.assertIs(is_full(family, Claim.costs(0), (((1,), (None, None)), (0,))), True)

    def test_words_of_the_document(self):
        for family, claim, supposed in random_worlds(59, 120):
            for claim in (claim, supposed):
                begun = beginnings(family, 2)
                self.assertEqual(start_track(family, claim), track_told(family, begun[0], claim) if begun else None)
                for was in begun[:30]:
                    track = track_told(family, was, claim)
                    self.assertIs(is_full(family, claim, track), may_end(family, was) and keeps(family, was, claim))
                    found = []
                    for letter in family.alphabet:
                        found.extend((letter, *move) for move in track_moves(family, claim, track, letter))
                    expected = [(after["first"][-1], after["columns"][-1], after["costs"][-1], track_told(family, after, claim))
                                for after in continued(family, was)]
                    self.assertEqual(found, expected)


if __name__ == "__main__":
    unittest.main()

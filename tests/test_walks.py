"""Points 60 to 63: tracks that are reached, histories, their number, and refutations."""

import itertools
import random
import unittest

from firsthand.claims import Claim
from firsthand.errors import UnknownCopy
from firsthand.families import Family
from firsthand.hands import Hand
from firsthand.histories import is_let
from firsthand.setmaking import exactly, lengths, nothing, torn
from firsthand.tracks import is_full, start_track, track_moves
from firsthand.walks import (
    count_histories, histories, is_closed, is_refutation, least_history, reachable, refutation,
)
from tests.brute import lists_of, only_tuples
from tests.worlds import as_history, history_key, looked_at, random_worlds, tracks_told

HAND = Hand.of_faults("ab", [("omit", "b", 1), ("double", "a", 2)])
FAMILY = Family("ab").copied("x", "first", HAND).found("x", exactly("ab", ["aa"]))
FAITHFUL = Hand.faithful("ab")
# Three tracks: before, after one letter, after two letters.
BEFORE, BETWEEN, BEHIND = [(((0,), (None, at)), ()) for at in range(3)]
NONE_LEFT = Family("ab").copied("x", "first", FAITHFUL).found("x", exactly("ab", ["ab"])).found("first", torn("ab", "a?b"))
EMPTY = FAMILY.found("first", nothing("ab"))


def wide_family(copies):
    """Every letter can be copied in several ways by each copy."""
    rules = [(0, letter, block, cost, 0) for letter in "ab" for block, cost in (("", 1), ("a", 0), ("b", 2), ("ab", 3))]
    family = Family("ab")
    for at in range(copies):
        family = family.copied(f"c{at}", "first", Hand("ab", rules, [0]))
    return family


class ReachableTest(unittest.TestCase):
    def test_order(self):
        self.assertEqual(reachable(FAMILY), (BEFORE, BETWEEN, BEHIND))
        self.assertTrue(only_tuples(reachable(FAMILY)))
        self.assertEqual(reachable(EMPTY), ())
        self.assertEqual(reachable(Family("ab")), ((((), (None,)), ()),))

    def test_tracks_that_lead_nowhere(self):
        family = Family("ab").found("first", torn("ab", "b*"))
        hand = Hand("ab", [(0, "b", "", 0, 4), (0, "b", "b", 0, 3), (0, "a", "b", 0, 2)], [])
        found = reachable(family.copied("x", "first", hand))
        self.assertEqual(found, tuple((((state,), (kept, None)), ()) for state, kept in ((0, 0), (4, 1), (3, 1))))

    def test_claim(self):
        claim = Claim.reads("x", 0, "aa") | Claim.costs(2)
        found = reachable(FAMILY, supposed=claim)
        self.assertEqual(found[:4], tuple((((0,), (None, kept)), mark) for kept, mark in (
            (0, (0, 0)), (1, (2, 0)), (2, (1, 2)), (0, (2, 1)))))
        self.assertEqual(len(found), len(set(found)))

    def test_beginnings_of_the_document(self):
        for family, claim, supposed in random_worlds(61, 100):
            for claim in (claim, supposed):
                expected = tracks_told(family, claim, 3)
                found = reachable(family, supposed=claim)
                self.assertEqual(found[:len(expected)], tuple(expected))
                self.assertEqual(len(found), len(set(found)))
                self.assertIs(is_closed(family, found, supposed=claim), True)

    def test_all_tracks_by_single_moves(self):
        checked = 0
        for family, _, supposed in random_worlds(610, 150, places=2, most=400, atoms=2):
            order = [start_track(family, supposed)] if start_track(family, supposed) else []
            for track in order:
                for letter in family.alphabet:
                    for _, _, after in track_moves(family, supposed, track, letter):
                        if after not in order:
                            order.append(after)
                if len(order) > 200:
                    break
            else:
                self.assertEqual(reachable(family, supposed=supposed), tuple(order))
                checked += len(order) > 4
        self.assertGreater(checked, 15)

    def test_many_columns(self):
        self.assertEqual(reachable(wide_family(8)), ((((0,) * 8, (None,) * 9), ()),))


class ClosedTest(unittest.TestCase):
    def test_tables(self):
        whole = [BEFORE, BETWEEN, BEHIND]
        for table in itertools.permutations(whole):
            self.assertIs(is_closed(FAMILY, table), True)
            self.assertIs(is_closed(FAMILY, lists_of(table + table)), True)
        for track in whole:
            self.assertIs(is_closed(FAMILY, [other for other in whole if other != track]), False)
        self.assertIs(is_closed(FAMILY, []), False)

    def test_more_tracks_than_needed(self):
        family = Family("ab").copied("x", "first", Hand("ab", [(0, "a", "a", 0, 0), (5, "b", "b", 0, 6)], [0]))
        start, more, further = [(((state,), (None, None)), ()) for state in (0, 5, 6)]
        self.assertIs(is_closed(family, [start]), True)
        self.assertIs(is_closed(family, [start, further]), True)
        self.assertIs(is_closed(family, [start, more]), False)
        self.assertIs(is_closed(family, [further, more, start]), True)
        self.assertIs(is_closed(family, [further, more]), False)

    def test_marks_that_belong_to_no_beginning(self):
        claim = Claim.costs(0) & Claim.slips("x", 0)
        table = list(reachable(FAMILY, supposed=claim))
        odd, then = [(((0,), (None, kept)), (0, 1)) for kept in (1, 2)]
        self.assertFalse({odd, then} & set(table))
        self.assertIs(is_closed(FAMILY, table + [odd], supposed=claim), False)
        self.assertIs(is_closed(FAMILY, table + [odd, then], supposed=claim), True)

    def test_no_start_track(self):
        self.assertIs(is_closed(EMPTY, []), True)
        self.assertIs(is_closed(EMPTY, ()), True)

    def test_one_track_missing(self):
        rand = random.Random(62)
        for family, claim, _ in random_worlds(62, 60):
            table = list(reachable(family, supposed=claim))
            if table:
                for track in rand.sample(table, min(3, len(table))):
                    rest = [other for other in table if other != track]
                    self.assertIs(is_closed(family, rest, supposed=claim), False)
                rand.shuffle(table)
                self.assertIs(is_closed(family, table + table[:2], supposed=claim), True)


class HistoriesTest(unittest.TestCase):
    def test_all_in_order(self):
        found = list(histories(FAMILY, places=2))
        self.assertEqual([first for first, _ in found], ["a", "aa", "ab", "ba"])
        self.assertEqual(found[0], ("a", (((("aa", 2),),),)))
        self.assertTrue(only_tuples(tuple(found)))
        self.assertEqual(list(histories(FAMILY, places=0)), [])
        self.assertEqual(list(histories(Family("ab"), places=0)), [("", ())])
        self.assertEqual(list(histories(EMPTY, places=12)), [])
        self.assertEqual([first for first, _ in histories(FAMILY, places=3, supposed=Claim.costs(1))], ["aa", "aab", "aba", "baa"])

    def test_words_of_the_document(self):
        count = 0
        for family, _, supposed in random_worlds(620, 150):
            expected = [as_history(was) for was in looked_at(family, 3, supposed)]
            self.assertEqual(expected, sorted(expected, key=history_key))
            self.assertEqual(list(histories(family, places=3, supposed=supposed)), expected)
            for places in range(4):
                shorter = [history for history in expected if len(history[0]) <= places]
                self.assertEqual(list(histories(family, places=places, supposed=supposed)), shorter)
                number = len([history for history in shorter if len(history[0]) == places])
                self.assertEqual(count_histories(family, places=places, supposed=supposed), number)
            least = least_history(family, supposed=supposed)
            if expected:
                self.assertEqual(least, expected[0])
            elif least is not None:
                self.assertGreater(len(least[0]), 3)
                self.assertIs(is_let(family, least), True)
            count += len(expected)
        self.assertGreater(count, 500)

    def test_lazily(self):
        family = wide_family(3).found("c0", lengths("ab", 7, None))
        found = list(itertools.islice(histories(family, places=12), 5))
        self.assertEqual({len(first) for first, _ in found}, {4})
        self.assertEqual(found, sorted(found, key=history_key))
        self.assertEqual(found[0], least_history(family))
        late = Family("ab").found("first", lengths("ab", 12, 12)).copied("x", "first", wide_family(1).making("c0")[2])
        first, columns = next(histories(late, places=12))
        self.assertEqual((first, columns), ("a" * 12, (((("", 1),),),) * 12))

    def test_errors_as_soon_as_it_is_iterated(self):
        walk = histories(FAMILY, places=3, supposed=Claim.slips("q", 1))
        with self.assertRaises(UnknownCopy):
            next(walk)

    def test_changed_nothing_and_again_the_same(self):
        one, two = histories(FAMILY, places=3), histories(FAMILY, places=3)
        for history in one:
            self.assertEqual(next(two), history)


class CountTest(unittest.TestCase):
    def test_no_places(self):
        self.assertEqual(count_histories(Family("ab"), places=0), 1)
        self.assertEqual(count_histories(FAMILY, places=0), 0)
        self.assertEqual(count_histories(EMPTY, places=0), 0)
        self.assertEqual(count_histories(Family("ab"), places=0, supposed=Claim.reads("first", 0, "a")), 0)

    def test_forty_places(self):
        self.assertEqual(count_histories(Family("abcdef"), places=40), 6 ** 40)
        self.assertEqual(count_histories(wide_family(2), places=40), (2 * 4 * 4) ** 40)
        self.assertEqual(count_histories(FAMILY, places=40), 40 + 40 * 39 // 2)
        self.assertEqual(count_histories(FAMILY, places=40, supposed=Claim.costs(39)), 40 * 39 // 2)
        joined = Family("a").joined("j", "first", "first", most=2)
        self.assertEqual(count_histories(joined, places=40), 2 * (1 + 39 + 39 * 38 // 2))
        self.assertEqual(count_histories(EMPTY, places=40), 0)


class LeastTest(unittest.TestCase):
    def test_no_history(self):
        self.assertIsNone(least_history(NONE_LEFT))
        self.assertIsNone(least_history(EMPTY))
        self.assertIsNone(least_history(FAMILY, supposed=Claim.reads("x", 2, "aa") & Claim.slips("x", 0)))

    def test_many_places(self):
        family = Family("ab").copied("x", "first", FAITHFUL).found("x", torn("ab", "?" * 12 + "bbb"))
        first, columns = least_history(family)
        self.assertEqual(first, "a" * 12 + "bbb")
        self.assertEqual(columns[-1], ((("b", 0),),))

    def test_letters_come_before_columns(self):
        hand = Hand("ab", [(0, "a", "b", 0, 0), (0, "b", "", 0, 0)], [0])
        family = Family("ab").copied("x", "first", hand).found("first", lengths("ab", 1, 1))
        self.assertEqual(least_history(family), ("a", (((("b", 0),),),)))


class RefutationTest(unittest.TestCase):
    def test_refutation(self):
        table = refutation(NONE_LEFT)
        self.assertEqual(table, reachable(NONE_LEFT))
        self.assertGreater(len(table), 1)
        self.assertIs(is_refutation(NONE_LEFT, table), True)
        self.assertIs(is_refutation(NONE_LEFT, lists_of(table[::-1] + table)), True)
        for track in table:
            self.assertIs(is_refutation(NONE_LEFT, [other for other in table if other != track]), False)
        self.assertEqual(refutation(EMPTY), ())
        self.assertIs(is_refutation(EMPTY, ()), True)

    def test_no_refutation(self):
        self.assertIsNone(refutation(FAMILY))
        self.assertIs(is_refutation(FAMILY, reachable(FAMILY)), False)
        self.assertIsNone(refutation(Family("ab")))

    def test_claim(self):
        claim = Claim.costs(1) & Claim.reads("x", 0, "aa")
        table = refutation(FAMILY, supposed=claim)
        self.assertEqual(table, reachable(FAMILY, supposed=claim))
        self.assertIs(is_refutation(FAMILY, table, supposed=claim), True)
        # A full track more makes it none, also if it belongs to no beginning.
        full = (((0,), (None, 2)), (0, 1))
        self.assertIs(is_full(FAMILY, claim, full), True)
        more = (full, (full[0], (1, 1)), (full[0], (2, 1)))
        self.assertIs(is_closed(FAMILY, table + more, supposed=claim), True)
        self.assertIs(is_refutation(FAMILY, table + more, supposed=claim), False)

    def test_words_of_the_document(self):
        """The first text has at most three letters, so all histories are seen."""
        words = {True: 0, False: 0}
        for family, _, supposed in random_worlds(63, 100):
            family = family.found("first", lengths(family.alphabet, 0, 3))
            some = bool(looked_at(family, 3, supposed))
            table = refutation(family, supposed=supposed)
            self.assertEqual(table, None if some else reachable(family, supposed=supposed))
            self.assertIs(is_refutation(family, reachable(family, supposed=supposed), supposed=supposed), not some)
            words[some] += 1
        self.assertGreater(min(words.values()), 20)


if __name__ == "__main__":
    unittest.main()

"""Points 49 to 52: standings, moves and what follows."""

import random
import unittest

from firsthand.errors import BadHistory
from firsthand.families import Family
from firsthand.hands import Hand
from firsthand.histories import is_let
from firsthand.setmaking import exactly, lengths, nothing, torn
from firsthand.standings import follow, is_end, moves, standing_of, start_standing
from tests.brute import lists_of, only_tuples
from tests.worlds import as_history, beginnings, column_key, continued, may_end, random_worlds, standing_told

HAND = Hand.of_faults("ab", [("omit", "b", 1), ("double", "a", 2)])
FAITHFUL = Hand.faithful("ab")
COPIED = Family("ab").copied("x", "first", HAND)


def columns_of(found):
    return [move[0] for move in found]


class StartTest(unittest.TestCase):
    def test_example(self):
        family = COPIED.found("x", exactly("ab", ["aa"]))
        self.assertEqual(start_standing(family), ((0,), (None, 0)))

    def test_all_makings(self):
        family = COPIED.joined("j", "first", "x", most=2).conflated("c", "x", "j").corrected("k", "x", "j", most=0)
        family = family.found("first", torn("ab", "*")).found("k", torn("ab", "a*"))
        self.assertEqual(start_standing(family), ((0, (None, 0), (None, 0), (None, 0)), (0, None, None, None, 0)))
        self.assertEqual(start_standing(Family("ab")), ((), (None,)))

    def test_empty_kept_set(self):
        self.assertIsNone(start_standing(COPIED.found("x", nothing("ab"))))
        self.assertIsNone(start_standing(COPIED.found("first", nothing("ab"))))
        both = COPIED.found("x", torn("ab", "a")).found("x", torn("ab", "b"))
        self.assertIsNone(start_standing(both))


class OrderTest(unittest.TestCase):
    """Point 49."""

    def test_blocks_come_in_the_order_of_texts_and_then_costs(self):
        rules = [(0, "a", block, cost, 0) for block, cost in [("b", 1), ("b", 0), ("ab", 0), ("", 5), ("aa", 0), ("a", 3)]]
        family = Family("ab").copied("x", "first", Hand("ab", rules, [0]))
        found = columns_of(moves(family, ((0,), (None, None)), "a"))
        self.assertEqual(found, [(((block, cost),),) for block, cost in [("", 5), ("a", 3), ("b", 0), ("b", 1), ("aa", 0), ("ab", 0)]])

    def test_first_entry_decides_then_first_pair(self):
        two = Hand("ab", [(0, "a", "a", 0, 0), (0, "a", "aa", 0, 0)], [0])
        family = Family("ab").copied("x", "first", two).copied("y", "x", two).joined("z", "x", "y")
        found = columns_of(moves(family, ((0, 0, (None, 0)), (None,) * 4), "a"))
        a, aa = ("a", 0), ("aa", 0)
        rows = [((a,), (a,)), ((a,), (aa,)), ((aa,), (a, a)), ((aa,), (a, aa)), ((aa,), (aa, a)), ((aa,), (aa, aa))]
        self.assertEqual(found, [(*row, side) for row in rows for side in (0, 1)])

    def test_columns_of_many_families_ascend(self):
        count = 0
        for family, _, _ in random_worlds(49, 150):
            for was in beginnings(family, 1):
                for letter in family.alphabet:
                    found = columns_of(moves(family, standing_told(family, was), letter))
                    self.assertEqual(found, sorted(found, key=column_key))
                    self.assertEqual(len(set(found)), len(found))
                    count += len(found) > 2
        self.assertGreater(count, 20)


class MovesTest(unittest.TestCase):
    """Point 51."""

    def test_example(self):
        family = COPIED.found("x", exactly("ab", ["aa"]))
        expected = ((((("a", 0),),), 0, ((0,), (None, 1))), (((("aa", 2),),), 2, ((0,), (None, 2))))
        for standing in (start_standing(family), lists_of(start_standing(family))):
            found = moves(family, standing, "a")
            self.assertEqual(found, expected)
            self.assertTrue(only_tuples(found))
        self.assertEqual(moves(family, ((0,), (None, 2)), "a"), ())
        self.assertEqual(moves(family, ((0,), (None, 2)), "b"), ((((("", 1),),), 1, ((0,), (None, 2))),))

    def test_no_made_copies(self):
        family = Family("ab").found("first", exactly("ab", ["ab"]))
        self.assertEqual(moves(family, ((), (0,)), "a"), (((), 0, ((), (1,))),))
        self.assertEqual(moves(family, ((), (0,)), "b"), ())

    def test_several_letters_of_the_exemplar(self):
        family = COPIED.copied("y", "x", HAND)
        found = moves(family, start_standing(family), "a")
        rows = {column: cost for column, cost, _ in found}
        self.assertEqual(rows[((("aa", 2),), (("aa", 2), ("a", 0)))], 4)
        self.assertEqual(len(found), 6)
        found = moves(family, start_standing(family), "b")
        self.assertEqual(columns_of(found), [((("", 1),), ()), ((("b", 0),), (("", 1),)), ((("b", 0),), (("b", 0),))])

    def test_joined(self):
        family = COPIED.joined("j", "first", "x", most=1, cost=3)
        found = {(side, last, used): [(cost, after) for column, cost, after in
                                      moves(family, ((0, (last, used)), (None,) * 3), "b") if column == ((("b", 0),), side)]
                 for side in (0, 1) for last in (None, 0, 1) for used in (0, 1)}
        for side in (0, 1):
            for used in (0, 1):
                self.assertEqual(found[side, None, used], [(0, ((0, (side, used)), (None,) * 3))])
                self.assertEqual(found[side, side, used], [(0, ((0, (side, used)), (None,) * 3))])
            self.assertEqual(found[side, 1 - side, 0], [(3, ((0, (side, 1)), (None,) * 3))])
            self.assertEqual(found[side, 1 - side, 1], [])

    def test_conflated_and_corrected(self):
        for kind, block in (("conflated", "aaa"), ("corrected", "aa")):
            family = getattr(COPIED, kind)("k", "first", "x", most=2, cost=5).found("k", exactly("ab", [block, "a"]))
            after = family.kept("k").state_after(block)
            start = start_standing(family)
            self.assertEqual(start, ((0, (None, 0)), (None, None, 0)))
            move = (((("aa", 2),), 1), 7, ((0, (None, 1)), (None, None, after)))
            self.assertIn(move, moves(family, start, "a"))
            self.assertEqual(columns_of(moves(family, start, "a")), [((("a", 0),), 0), ((("aa", 2),), 0), ((("aa", 2),), 1)])
            full = ((0, (None, 2)), (None, None, 0))
            self.assertEqual(columns_of(moves(family, full, "a")), [((("a", 0),), 0), ((("aa", 2),), 0)])

    def test_most_none_is_not_counted(self):
        for kind in ("joined", "conflated", "corrected"):
            family = getattr(COPIED, kind)("k", "first", "x")
            standing = start_standing(family)
            for side in (1, 0, 1, 0, 1):
                _, standing = follow(family, standing, "a", ((("aa", 2),), side))
                self.assertEqual(standing[0][1], (side if kind == "joined" else None, 0))

    def test_standings_that_no_beginning_leads_to(self):
        hand = Hand("ab", [(0, "a", "a", 0, 0), (7, "a", "b", 1, 3), (7, "b", "", 1, 7)], [3])
        family = Family("ab").copied("x", "first", hand).joined("j", "x", "x", most=3).found("x", exactly("ab", ["ab", "b"]))
        found = moves(family, ((7, (0, 2)), (None, 1, None)), "a")
        self.assertEqual(found, (
            (((("b", 1),), 0), 1, ((3, (0, 2)), (None, 2, None))), (((("b", 1),), 1), 2, ((3, (1, 3)), (None, 2, None))),
        ))
        self.assertEqual(moves(family, ((3, (None, 3)), (None, 0, None)), "a"), ())
        self.assertEqual(len(moves(family, ((7, (None, 3)), (None, 2, None)), "b")), 2)

    def test_words_of_the_document(self):
        """All moves of beginnings against the definition of what may happen at a place."""
        count = 0
        for family, _, _ in random_worlds(51, 150):
            for was in beginnings(family, 2):
                standing = standing_told(family, was)
                expected = {letter: [] for letter in family.alphabet}
                for after in continued(family, was):
                    letter, column, cost = after["first"][-1], after["columns"][-1], after["costs"][-1]
                    expected[letter].append((column, cost, standing_told(family, after)))
                for letter in family.alphabet:
                    self.assertEqual(moves(family, standing, letter), tuple(expected[letter]))
                    count += 1
        self.assertGreater(count, 500)


class FollowTest(unittest.TestCase):
    def test_every_move(self):
        rand = random.Random(5)
        for family, _, _ in random_worlds(52, 60):
            for was in rand.sample(found := beginnings(family, 2), min(4, len(found))):
                standing = standing_told(family, was)
                for letter in family.alphabet:
                    for column, cost, after in moves(family, standing, letter):
                        self.assertEqual(follow(family, standing, letter, column), (cost, after))
                        answer = follow(family, lists_of(standing), letter, lists_of(column))
                        self.assertEqual(answer, (cost, after))
                        self.assertTrue(only_tuples(answer))

    def test_wrong_entries(self):
        family = COPIED.joined("j", "first", "x").found("x", torn("ab", "a*"))
        start = start_standing(family)
        good = (("a", 0),)
        self.assertEqual(follow(family, start, "a", (good, 1)), (0, ((0, (1, 0)), (None, 1, None))))
        for entry in ((), (("a", 0), ("a", 0)), (("a", 1),), (("b", 0),), (("zz", 0),), (("a", 100),)):
            self.assertIsNone(follow(family, start, "a", (entry, 0)))
        for side in (2, -1, 10):
            self.assertIsNone(follow(family, start, "a", (good, side)))
        self.assertIsNone(follow(family, start, "b", ((("b", 0),), 0)))

    def test_entry_must_fit_the_block_of_the_exemplar(self):
        family = COPIED.copied("y", "x", FAITHFUL)
        start = start_standing(family)
        pairs = (("a", 0), ("a", 0))
        self.assertIsNotNone(follow(family, start, "a", ((("aa", 2),), pairs)))
        self.assertIsNone(follow(family, start, "a", ((("aa", 2),), pairs[:1])))
        self.assertIsNone(follow(family, start, "a", ((("a", 0),), pairs)))
        self.assertEqual(follow(family, start, "b", ((("", 1),), ())), (1, ((0, 0), (None,) * 3)))

    def test_side_of_equal_blocks(self):
        for kind in ("conflated", "corrected"):
            family = getattr(COPIED, kind)("k", "first", "x")
            self.assertIsNone(follow(family, start_standing(family), "b", ((("b", 0),), 1)))
            self.assertIsNotNone(follow(family, start_standing(family), "b", ((("b", 0),), 0)))


class EndTest(unittest.TestCase):
    def test_hands_and_kept_sets(self):
        hand = Hand("ab", [(0, "a", "a", 0, 1), (1, "a", "", 1, 2)], [1, 2])
        family = Family("ab").copied("x", "first", hand).found("first", lengths("ab", 1, 2)).joined("j", "x", "x", most=1)
        for state, kept, ends in ((1, 1, True), (2, 2, True), (0, 1, False), (1, 0, False), (0, 0, False)):
            for maker in ((None, 0), (0, 1), (1, 0)):
                standing = ((state, maker), (kept, None, None))
                self.assertIs(is_end(family, standing), ends)
                self.assertIs(is_end(family, lists_of(standing)), ends)
        self.assertIs(is_end(Family("ab"), ((), (None,))), True)

    def test_histories(self):
        for family, _, _ in random_worlds(53, 60):
            for was in beginnings(family, 2):
                self.assertIs(is_end(family, standing_told(family, was)), may_end(family, was))
                self.assertIs(is_let(family, as_history(was)), may_end(family, was))


class StandingOfTest(unittest.TestCase):
    """Point 52."""

    def refused(self, family, history, place, name):
        for passed in (history, lists_of(history)):
            with self.assertRaises(BadHistory) as caught:
                standing_of(family, passed)
            self.assertEqual((caught.exception.place, caught.exception.name), (place, name))

    def test_all_beginnings(self):
        for family, _, _ in random_worlds(54, 60):
            for was in beginnings(family, 2):
                history = as_history(was)
                found = standing_of(family, lists_of(history))
                self.assertEqual(found, standing_told(family, was))
                self.assertEqual(standing_of(family, history), found)
                self.assertTrue(only_tuples(found))

    def test_history_need_not_be_able_to_end(self):
        hand = Hand("ab", [(0, "a", "a", 0, 1)], [0])
        family = Family("ab").copied("x", "first", hand).found("first", exactly("ab", ["aa"]))
        history = ("a", (((("a", 0),),),))
        self.assertIs(is_let(family, history), False)
        self.assertEqual(standing_of(family, history), ((1,), (1, None)))
        self.assertEqual(standing_of(family, ("", ())), ((0,), (0, None)))

    def test_errors(self):
        good, bad = ((("a", 0),),), ((("b", 0),),)
        self.refused(COPIED, ("aa", (good,)), 1, "first")
        self.refused(COPIED, ("", (good,)), 0, "first")
        self.refused(COPIED, ("aza", (good, good, good)), 1, "first")
        self.refused(COPIED, ("aa", (good, bad)), 1, "x")
        self.refused(COPIED, ("aa", (good, ((),))), 1, "x")
        family = COPIED.joined("j", "first", "x", most=0)
        self.refused(family, ("aaa", tuple((good[0], side) for side in (1, 1, 0))), 2, "j")
        self.refused(family, ("a", ((good[0], 2),)), 0, "j")
        self.refused(COPIED.found("x", exactly("ab", ["a"])), ("aa", (good, good)), 1, "x")
        self.refused(COPIED.found("x", exactly("ab", ["b"])).found("first", exactly("ab", ["b"])), ("a", (good,)), 0, "first")

    def test_empty_kept_sets(self):
        family = COPIED.copied("y", "x", FAITHFUL).found("y", nothing("ab"))
        self.refused(family, ("", ()), 0, "y")
        self.refused(family.found("x", nothing("ab")), ("", ()), 0, "x")
        self.refused(family.found("first", nothing("ab")), ("", ()), 0, "first")
        # With places, the error is that of the first place, name by name.
        self.refused(family, ("a", (((("a", 0),), (("a", 0),)),)), 0, "y")
        self.refused(family, ("a", (((("a", 0),), (("b", 0),)),)), 0, "y")
        self.refused(family, ("z", (((("a", 0),), (("a", 0),)),)), 0, "first")
        self.refused(family, ("a", (((("b", 0),), (("b", 0),)),)), 0, "x")
        self.refused(family, ("a", ()), 0, "first")


if __name__ == "__main__":
    unittest.main()

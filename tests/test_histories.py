import itertools
import unittest

from firsthand.errors import BadHistory, UnknownCopy
from firsthand.families import Family
from firsthand.hands import Hand
from firsthand.histories import blocks, cost_of, is_let, slips_of, text_of
from firsthand.setmaking import exactly, lengths, nothing, torn
from tests.brute import all_texts, lists_of, only_tuples

HAND = Hand.of_faults("ab", [("omit", "b", 1), ("double", "a", 2)])
FAITHFUL = Hand.faithful("ab")


def copy_entries(entry):
    return tuple((block, cost) for block, cost in entry)


class HistoryCase(unittest.TestCase):
    def refused(self, family, history, place, name):
        for passed in (history, lists_of(history)):
            self.assertIs(is_let(family, passed), False)
            asks = [lambda: blocks(family, passed), lambda: text_of(family, passed, "first"),
                    lambda: slips_of(family, passed, "first"), lambda: cost_of(family, passed)]
            for ask in asks:
                with self.assertRaises(BadHistory) as caught:
                    ask()
                self.assertEqual((caught.exception.place, caught.exception.name), (place, name))

    def let(self, family, history, rows):
        before = lists_of(history)
        for passed in (history, lists_of(history)):
            self.assertIs(is_let(family, passed), True)
            found = blocks(family, passed)
            self.assertEqual(found, rows)
            self.assertTrue(only_tuples(found))
            for name, row in zip(family, rows):
                self.assertEqual(text_of(family, passed, name), "".join(row))
            self.assertEqual(lists_of(passed), before)


class CopiedTest(HistoryCase):
    def setUp(self):
        self.family = Family("ab").copied("x", "first", HAND).copied("y", "x", HAND)

    def test_example(self):
        family = Family("ab").copied("x", "first", HAND)
        history = ("ab", [[[("aa", 2)]], [[("", 1)]]])
        answers = [blocks(family, history), text_of(family, history, "x"), cost_of(family, history)]
        self.assertEqual(answers, [(("a", "b"), ("aa", "")), "aa", 3])

    def test_entries_for_the_letters_of_the_exemplar(self):
        history = ("ab", (((("aa", 2),), (("a", 0), ("aa", 2))), ((("", 1),), ())))
        self.let(self.family, history, (("a", "b"), ("aa", ""), ("aaa", "")))
        self.assertEqual([slips_of(self.family, history, name) for name in ("first", "x", "y")], [0, 2, 1])
        self.assertEqual(cost_of(self.family, history), 5)

    def test_wrong_number_of_pairs(self):
        self.refused(self.family, ("a", (((), (("a", 0),)),)), 0, "x")
        self.refused(self.family, ("a", (((("a", 0), ("a", 0)), (("a", 0),)),)), 0, "x")
        self.refused(self.family, ("a", (((("aa", 2),), (("a", 0),)),)), 0, "y")
        self.refused(self.family, ("b", (((("", 1),), (("", 0),)),)), 0, "y")

    def test_no_rule(self):
        self.refused(self.family, ("ab", (((("a", 0),), (("a", 0),)), ((("b", 0),), (("a", 0),)))), 1, "y")
        self.refused(self.family, ("ab", (((("a", 0),), (("a", 0),)), ((("b", 1),), (("b", 0),)))), 1, "x")
        self.refused(self.family, ("a", (((("z", 0),), (("a", 0),)),)), 0, "x")

    def test_state_goes_on_over_places(self):
        hand = Hand("ab", [(0, "a", "a", 0, 1), (1, "a", "", 1, 0), (1, "b", "b", 0, 1)], [0])
        family = Family("ab").copied("x", "first", hand)
        self.let(family, ("aba", (((("a", 0),),), ((("b", 0),),), ((("", 1),),))), (("a", "b", "a"), ("a", "b", "")))
        self.refused(family, ("aa", (((("a", 0),),), ((("a", 0),),))), 1, "x")
        self.refused(family, ("ab", (((("a", 0),),), ((("b", 0),),))), 2, "x")

    def test_no_places(self):
        self.let(self.family, ("", ()), ((), (), ()))
        self.assertEqual((slips_of(self.family, ("", ()), "x"), cost_of(self.family, ("", ()))), (0, 0))
        self.let(Family("ab"), ("", []), ((),))
        family = Family("ab").copied("x", "first", HAND).copied("y", "x", Hand("ab", [], [])).copied("z", "x", Hand("ab", [], []))
        self.refused(family, ("", ()), 0, "y")

    def test_number_of_columns(self):
        column = ((("a", 0),), (("a", 0),))
        self.refused(self.family, ("aa", (column,)), 1, "first")
        self.refused(self.family, ("a", (column, column)), 1, "first")
        self.refused(self.family, ("", (column,)), 0, "first")
        self.refused(self.family.found("first", nothing("ab")), ("zz", ()), 0, "first")

    def test_letters(self):
        column = ((("a", 0),), (("a", 0),))
        self.refused(self.family, ("aca", (column, column, column)), 1, "first")
        self.refused(self.family, ("za", (column, ((), ()))), 0, "first")


class MeetingTest(HistoryCase):
    def family(self, kind, most=None, cost=3):
        start = Family("ab").copied("x", "first", HAND)
        return getattr(start, kind)("y", "first", "x", most=most, cost=cost)

    def history(self, first, sides):
        entries = {"a": (("aa", 2),), "b": (("b", 0),)}
        return (first, tuple((entries[letter], side) for letter, side in zip(first, sides)))

    def test_joined(self):
        family = self.family("joined")
        history = self.history("aaba", (1, 1, 0, 1))
        self.let(family, history, (tuple("aaba"), ("aa", "aa", "b", "aa"), ("aa", "aa", "b", "aa")))
        self.assertEqual((slips_of(family, history, "y"), cost_of(family, history)), (2, 12))
        history = self.history("aaba", (0, 0, 0, 0))
        self.let(family, history, (tuple("aaba"), ("aa", "aa", "b", "aa"), tuple("aaba")))
        self.assertEqual((slips_of(family, history, "y"), slips_of(family, history, "x"), cost_of(family, history)), (0, 3, 6))

    def test_joined_first_side_is_no_slip(self):
        family = self.family("joined", most=0)
        self.let(family, self.history("ab", (1, 1)), (("a", "b"), ("aa", "b"), ("aa", "b")))
        self.refused(family, self.history("aba", (1, 1, 0)), 2, "y")

    def test_conflated(self):
        family = self.family("conflated")
        history = self.history("aab", (1, 0, 0))
        self.let(family, history, (tuple("aab"), ("aa", "aa", "b"), ("aaa", "a", "b")))
        self.assertEqual((slips_of(family, history, "y"), cost_of(family, history)), (1, 7))
        history = self.history("aa", (1, 1))
        self.assertEqual((slips_of(family, history, "y"), cost_of(family, history)), (2, 10))

    def test_corrected(self):
        family = self.family("corrected")
        history = self.history("aab", (0, 1, 0))
        self.let(family, history, (tuple("aab"), ("aa", "aa", "b"), ("a", "aa", "b")))
        self.assertEqual((slips_of(family, history, "y"), cost_of(family, history)), (1, 7))

    def test_equal_blocks(self):
        for kind in ("conflated", "corrected"):
            self.refused(self.family(kind), self.history("ab", (0, 1)), 1, "y")
        self.let(self.family("joined"), self.history("ab", (0, 1)), (("a", "b"), ("aa", "b"), ("a", "b")))
        same = Family("ab").corrected("y", "first", "first")
        self.refused(same, ("a", ((1,),)), 0, "y")
        self.let(same, ("a", ((0,),)), (("a",), ("a",)))
        self.let(Family("ab").joined("y", "first", "first"), ("aa", ((1,), (0,))), (("a", "a"), ("a", "a")))

    def test_other_numbers(self):
        for kind in ("joined", "conflated", "corrected"):
            for side in (2, -1, 10):
                self.refused(self.family(kind), self.history("aa", (0, side)), 1, "y")

    def test_most(self):
        for kind in ("conflated", "corrected"):
            for most, place in ((0, 0), (1, 2), (2, 3)):
                self.refused(self.family(kind, most), self.history("abaa", (1, 0, 1, 1)), place, "y")
            for most in (3, 9, None):
                self.assertIs(is_let(self.family(kind, most), self.history("abaa", (1, 0, 1, 1))), True)
        for most, place in ((0, 1), (1, 2), (2, 3)):
            self.refused(self.family("joined", most), self.history("aaaa", (1, 0, 1, 0)), place, "y")
        self.assertIs(is_let(self.family("joined", 3), self.history("aaaa", (1, 0, 1, 0))), True)

    def test_many_slips(self):
        history = self.history("a" * 20, (0, 1) * 10)
        self.assertEqual(slips_of(self.family("joined"), history, "y"), 19)
        self.assertEqual(cost_of(self.family("joined", cost=0), history), 40)
        self.assertEqual(cost_of(self.family("corrected", cost=99), history), 40 + 990)
        self.refused(self.family("joined", 9), history, 10, "y")


class KeptTest(HistoryCase):
    def setUp(self):
        self.start = Family("ab").copied("x", "first", HAND)
        self.history = ("ab", (((("aa", 2),),), ((("b", 0),),)))

    def test_kept(self):
        family = self.start.found("x", exactly("ab", ["aab", "b"])).found("first", torn("ab", "a?"))
        self.let(family, self.history, (("a", "b"), ("aa", "b")))

    def test_state_of_the_kept_set(self):
        self.refused(self.start.found("x", exactly("ab", ["aaa"])), self.history, 1, "x")
        self.refused(self.start.found("x", exactly("ab", ["ba"])), self.history, 0, "x")
        self.refused(self.start.found("first", exactly("ab", ["b"])), self.history, 0, "first")
        self.refused(self.start.found("first", exactly("ab", ["aa"])), self.history, 1, "first")

    def test_end_of_the_kept_set(self):
        self.refused(self.start.found("x", exactly("ab", ["aabb"])), self.history, 2, "x")
        self.refused(self.start.found("first", lengths("ab", 3, None)), self.history, 2, "first")

    def test_empty_kept_set(self):
        self.refused(self.start.found("x", nothing("ab")), self.history, 0, "x")
        self.refused(self.start.found("x", nothing("ab")), ("", ()), 0, "x")
        self.refused(self.start.found("x", nothing("ab")).found("first", nothing("ab")), ("", ()), 0, "first")
        self.refused(self.start.found("first", torn("ab", "?*")), ("", ()), 0, "first")
        self.let(self.start.found("first", exactly("ab", [""])), ("", ()), ((), ()))

    def test_order_of_errors(self):
        hand = Hand("ab", [(0, "a", "a", 0, 1), (0, "b", "b", 0, 0)], [0])
        family = Family("ab").copied("x", "first", hand).copied("y", "first", HAND)
        good, bad = (("a", 0),), (("b", 0),)
        # Place by place first, then name by name.
        self.refused(family.found("first", exactly("ab", ["ab"])), ("aa", ((good, good), (good, bad))), 1, "first")
        self.refused(family, ("aa", ((good, good), (good, bad))), 1, "x")
        self.refused(family, ("aa", ((good, bad), (bad, good))), 0, "y")
        self.refused(family.found("y", exactly("ab", ["b"])), ("aa", ((good, good), (bad, good))), 0, "y")
        # What is wrong at the end comes after all places.
        self.refused(family.found("y", exactly("ab", ["b"])), ("a", ((good, good),)), 0, "y")
        self.refused(family.found("y", exactly("ab", ["ab"])), ("a", ((good, good),)), 1, "x")
        self.refused(family.found("first", exactly("ab", ["ab"])), ("a", ((good, good),)), 1, "first")
        # The number of columns comes before all.
        self.refused(family, ("aza", ((bad, good), (good, good))), 2, "first")


class UnknownTest(unittest.TestCase):
    def test_unknown_copy_comes_first(self):
        family = Family("ab").copied("x", "first", HAND)
        for ask in (text_of, slips_of):
            for name in ("y", "", "First"):
                with self.assertRaises(UnknownCopy) as caught:
                    ask(family, ("ab", ()), name)
                self.assertEqual(caught.exception.name, name)


class EightCopiesTest(HistoryCase):
    def test_chain(self):
        family = Family("ab")
        names = ["first"] + [f"c{at}" for at in range(8)]
        for before, name in zip(names, names[1:]):
            family = family.copied(name, before, FAITHFUL)
        self.let(family, ("ab", ((((("a", 0)),),) * 8, ((("b", 0),),) * 8)), (("a", "b"),) * 9)
        column = ((("a", 0),),) * 7 + ((("b", 0),),)
        self.refused(family, ("a", (column,)), 0, "c7")


class BruteTest(unittest.TestCase):
    """All histories with few places against the definition of rows and kept sets."""

    def test_all_short_histories(self):
        kept = torn("ab", "*a*")
        family = Family("ab").copied("x", "first", HAND).corrected("y", "x", "first", most=1).found("y", kept)
        entries = list(itertools.product([(("a", 0),), (("aa", 2),), (("b", 0),), (("", 1),)], (0, 1)))
        count = 0
        for first in all_texts("ab", 3):
            for columns in itertools.product(entries, repeat=len(first)):
                row = [(letter, *column[0][0]) for letter, column in zip(first, columns)]
                read = [block for _, block, _ in row]
                text = "".join(first[at] if column[1] else read[at] for at, column in enumerate(columns))
                sides = [column[1] for column in columns]
                let = HAND.lets(row) and sum(sides) <= 1 and text in kept
                let = let and not any(side and read[at] == first[at] for at, side in enumerate(sides))
                self.assertIs(is_let(family, (first, columns)), let)
                count += let
        self.assertGreater(count, 20)

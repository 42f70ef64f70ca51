import unittest

from firsthand.errors import (
    AlphabetsDiffer, BadAlphabet, BadName, NotKept, StillUsed, TakenName, TooManyCopies, UnknownCopy,
)
from firsthand.families import Family
from firsthand.hands import Hand
from firsthand.setmaking import everything, exactly, nothing, torn

FAITHFUL = Hand.faithful("ab")
OTHER = Hand.faithful("abc")
MEETINGS = ("joined", "conflated", "corrected")


def add_ways(family, name, one, two):
    """Calls that make a copy in each of the four ways, from `one`, or from `one` and `two`."""
    calls = [(lambda: family.copied(name, one, FAITHFUL))]
    for kind in MEETINGS:
        calls.append(lambda kind=kind: getattr(family, kind)(name, one, two))
    return calls


class FamilyCase(unittest.TestCase):
    def raises(self, error, act):
        with self.assertRaises(error) as caught:
            act()
        return list(vars(caught.exception).values())


class GrowingTest(FamilyCase):
    def test_empty_family(self):
        family = Family("ab")
        self.assertEqual((family.alphabet, family.names, family.made), ("ab", ("first",), ()))
        self.assertEqual(self.raises(BadAlphabet, lambda: Family("ba")), ["ba"])

    def test_example(self):
        family = Family("ab").copied("x", "first", FAITHFUL).joined("y", "x", "first", most=2)
        answers = [family.names, family.making("y"), family.users("x"), "z" in family]
        self.assertEqual(answers, [("first", "x", "y"), ("joined", "x", "first", 2, 1), ("y",), False])

    def test_makings(self):
        family = Family("ab").copied("x", "first", FAITHFUL)
        self.assertEqual(family.making("x"), ("copied", "first", FAITHFUL))
        self.assertIs(family.making("x")[2], FAITHFUL)
        for kind in MEETINGS:
            grow = getattr(family, kind)
            self.assertEqual(grow("y", "x", "first").making("y"), (kind, "x", "first", None, 1))
            self.assertEqual(grow("y", "x", "x", most=0, cost=0).making("y"), (kind, "x", "x", 0, 0))
            self.assertEqual(grow("y", "first", "x", cost=99, most=9).making("y"), (kind, "first", "x", 9, 99))
            self.assertEqual(grow("y", "first", "x").names, ("first", "x", "y"))
        self.assertEqual(family.names, ("first", "x"))

    def test_a_hand_stays_as_it_was_made(self):
        hand = Hand("ab", [(0, "a", "a", 0, 7), (7, "a", "a", 0, 7)], [0, 7])
        made = Family("ab").copied("x", "first", hand).found("x", everything("ab")).making("x")[2]
        self.assertEqual((made.rules, made.ends), (hand.rules, hand.ends))

    def test_bad_name(self):
        family = Family("ab")
        for name in ("", "1a", "A", "abcdefghi", "a b", "X!"):
            for call in add_ways(family, name, name, "unknown"):
                self.assertEqual(self.raises(BadName, call), [name])

    def test_taken_name(self):
        family = Family("ab").copied("x", "first", FAITHFUL)
        for name in ("first", "x"):
            for call in add_ways(family, name, "unknown", "other"):
                self.assertEqual(self.raises(TakenName, call), [name])

    def test_too_many_copies(self):
        family = Family("ab")
        for at in range(8):
            family = family.copied(f"c{at}", "first", FAITHFUL)
        self.assertEqual(len(family), 9)
        for call in add_ways(family, "x", "unknown", "other"):
            self.assertEqual(self.raises(TooManyCopies, call), [9])
        self.assertEqual(self.raises(TakenName, lambda: family.copied("c3", "first", FAITHFUL)), ["c3"])
        self.assertEqual(self.raises(BadName, lambda: family.copied("C3", "first", FAITHFUL)), ["C3"])

    def test_unknown_exemplar(self):
        family = Family("ab").copied("x", "first", FAITHFUL)
        for call in add_ways(family, "y", "u", "v"):
            self.assertEqual(self.raises(UnknownCopy, call), ["u"])
        for call in add_ways(family, "y", "x", "v")[1:]:
            self.assertEqual(self.raises(UnknownCopy, call), ["v"])
        for call in add_ways(family, "y", "y", "y"):
            self.assertEqual(self.raises(UnknownCopy, call), ["y"])
        self.assertEqual(self.raises(UnknownCopy, lambda: family.copied("y", "!", OTHER)), ["!"])

    def test_other_alphabet(self):
        family = Family("ab")
        self.assertEqual(self.raises(AlphabetsDiffer, lambda: family.copied("x", "first", OTHER)), ["ab", "abc"])


class KeptTest(FamilyCase):
    def setUp(self):
        self.family = Family("ab").copied("x", "first", FAITHFUL).joined("y", "x", "x")

    def test_found(self):
        self.assertIsNone(self.family.kept("x"))
        family = self.family.found("x", torn("ab", "a*")).found("x", torn("ab", "*b")).found("first", nothing("ab"))
        self.assertEqual(family.kept("x"), torn("ab", "a*b") | nothing("ab"))
        self.assertEqual(family.kept("first"), nothing("ab"))
        self.assertIsNone(family.kept("y"))
        self.assertIsNone(self.family.kept("x"))

    def test_found_errors(self):
        self.assertEqual(self.raises(UnknownCopy, lambda: self.family.found("z", everything("abc"))), ["z"])
        self.assertEqual(self.raises(AlphabetsDiffer, lambda: self.family.found("x", everything("abc"))), ["ab", "abc"])

    def test_lost(self):
        family = self.family.found("x", torn("ab", "a*")).found("y", torn("ab", "b*"))
        self.assertIsNone(family.lost("x").kept("x"))
        self.assertEqual(family.lost("x").kept("y"), torn("ab", "b*"))
        self.assertEqual(family.kept("x"), torn("ab", "a*"))
        self.assertEqual(self.raises(UnknownCopy, lambda: family.lost("z")), ["z"])
        self.assertEqual(self.raises(NotKept, lambda: family.lost("first")), ["first"])
        self.assertEqual(self.raises(NotKept, lambda: family.lost("x").lost("x")), ["x"])
        self.assertEqual(family.found("first", nothing("ab")).lost("first"), family)

    def test_without(self):
        family = self.family.copied("z", "first", FAITHFUL).found("y", torn("ab", "a*")).found("z", torn("ab", "b*"))
        less = family.without("y")
        self.assertEqual((less.names, less.kept("z"), less.kept("x")), (("first", "x", "z"), torn("ab", "b*"), None))
        self.assertEqual(less.making("z"), ("copied", "first", FAITHFUL))
        self.assertIsNone(less.copied("y", "x", FAITHFUL).kept("y"))
        self.assertEqual(less.without("x").names, ("first", "z"))
        self.assertEqual(family.names, ("first", "x", "y", "z"))
        self.assertEqual(self.raises(StillUsed, lambda: family.without("x")), ["x"])
        self.assertEqual(self.raises(StillUsed, lambda: family.without("first")), ["first"])
        self.assertEqual(self.raises(StillUsed, lambda: Family("ab").without("first")), ["first"])
        self.assertEqual(self.raises(UnknownCopy, lambda: family.without("w")), ["w"])

    def test_room_after_without(self):
        family = Family("ab")
        for at in range(8):
            family = family.copied(f"c{at}", "first", FAITHFUL)
        self.assertEqual(len(family.without("c0").copied("x", "c7", FAITHFUL)), 9)


class AskingTest(FamilyCase):
    def setUp(self):
        family = Family("ab").copied("x", "first", FAITHFUL).joined("y", "x", "x").conflated("z", "first", "x")
        self.family = family.corrected("w", "y", "first")

    def test_names(self):
        self.assertEqual(self.family.names, ("first", "x", "y", "z", "w"))
        self.assertEqual(self.family.made, ("x", "y", "z", "w"))
        self.assertEqual(tuple(self.family), self.family.names)
        self.assertEqual(tuple(self.family), self.family.names)
        self.assertEqual(len(self.family), 5)
        self.assertEqual(len(Family("a")), 1)

    def test_in(self):
        for name in ("first", "x", "w"):
            self.assertIs(name in self.family, True)
        for name in ("", "f", "firs", "X", "no such name at all", "xy"):
            self.assertIs(name in self.family, False)

    def test_users(self):
        self.assertEqual(self.family.users("first"), ("x", "z", "w"))
        self.assertEqual(self.family.users("x"), ("y", "z"))
        self.assertEqual(self.family.users("y"), ("w",))
        self.assertEqual(self.family.users("w"), ())

    def test_unknown(self):
        for name in ("", "v", "A b", "firs"):
            for ask in (self.family.making, self.family.kept, self.family.users):
                self.assertEqual(self.raises(UnknownCopy, lambda: ask(name)), [name])
        self.assertEqual(self.raises(UnknownCopy, lambda: self.family.making("first")), ["first"])


class EqualityTest(unittest.TestCase):
    def test_same(self):
        twice = Hand("ab", [(0, "a", "a", 0, 1), (0, "b", "b", 0, 1), (1, "a", "a", 0, 0), (1, "b", "b", 0, 0)], [0, 1])
        one = Family("ab").copied("x", "first", FAITHFUL).found("x", everything("ab"))
        two = Family("ab").copied("x", "first", twice).found("x", torn("ab", "*"))
        self.assertIs(one == two, True)
        self.assertIs(one != two, False)
        self.assertIs(Family("ab") == Family("ab"), True)

    def test_different(self):
        one = Family("ab").copied("x", "first", FAITHFUL).copied("y", "first", FAITHFUL)
        others = [
            Family("ab"), Family("abc"), one.without("y"), one.without("x").copied("x", "first", FAITHFUL),
            one.without("y").copied("y", "x", FAITHFUL), one.without("y").copied("y", "first", FAITHFUL.limited(0) & Hand("ab", [], [0])),
            one.without("y").joined("y", "first", "first"), one.found("x", everything("ab")), one.found("first", everything("ab")),
            one.without("y").copied("z", "first", FAITHFUL),
        ]
        for other in others:
            self.assertIs(one == other, False)
            self.assertIs(other == one, False)
            self.assertIs(one != other, True)
        self.assertIs(one.found("x", exactly("ab", ["a"])) == one.found("x", exactly("ab", ["b"])), False)
        self.assertIs(one.joined("z", "x", "y") == one.joined("z", "y", "x"), False)
        self.assertIs(one.joined("z", "x", "y") == one.joined("z", "x", "y", most=9), False)
        self.assertIs(one.joined("z", "x", "y") == one.joined("z", "x", "y", cost=2), False)
        self.assertIs(one.joined("z", "x", "y") == one.corrected("z", "x", "y"), False)
        self.assertIs(Family("ab") == Family("a"), False)
        for value in (None, 0, ("first",), "ab"):
            self.assertIs(Family("ab") == value, False)

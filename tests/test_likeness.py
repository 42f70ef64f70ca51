"""Points 96 to 98."""

import random
import unittest

from firsthand.collations import history_showing
from firsthand.errors import AlphabetsDiffer, UnknownCopy
from firsthand.families import Family
from firsthand.hands import Hand
from firsthand.likeness import compare_families, is_likeness_table
from firsthand.setmaking import exactly, lengths, nothing, torn
from firsthand.walks import reachable
from tests.brute import lists_of, only_tuples
from tests.test_collations import collation_in
from tests.test_tellings import collation_key
from tests.worlds import as_history, beginnings, looked_at, random_family, is_small, track_told

FAITHFUL = Hand.faithful("ab")
BLURRED = Hand("ab", [(0, "a", "a", 0, 0), (0, "b", "a", 1, 0), (0, "b", "b", 0, 0)], [0])
# Whatever x shows, y may show as well, in both families, but they were made in different ways.
ONE = Family("ab").copied("x", "first", FAITHFUL).copied("y", "x", BLURRED)
TWO = Family("ab").copied("p", "first", FAITHFUL).copied("y", "p", BLURRED).copied("x", "p", FAITHFUL)
STILL = ONE.found("first", nothing("ab"))


class CompareTest(unittest.TestCase):
    def test_alike(self):
        answer = compare_families(ONE, TWO, ["x", "y"])
        self.assertEqual(vars(answer), {"alike": True, "collation": None, "holder": None, "history": None, "table": (((0,), (0,)),)})
        self.assertIs(answer.alike, True)
        self.assertIs(is_likeness_table(ONE, TWO, ["x", "y"], answer.table), True)

    def test_unlike(self):
        answer = compare_families(ONE, TWO.found("p", torn("ab", "*b")), ["x"])
        self.assertEqual(vars(answer), {"alike": False, "collation": (), "holder": 0, "history": ("", ()), "table": ()})
        self.assertIs(answer.alike, False)
        answer = compare_families(ONE.found("x", torn("ab", "*b")), TWO, ["y"])
        self.assertEqual((answer.collation, answer.holder, answer.history), ((), 1, ("", ())))
        answer = compare_families(ONE.found("first", lengths("ab", 0, 3)), TWO, [])
        self.assertEqual((answer.collation, answer.holder, answer.history[0]), (((),) * 4, 1, "aaaa"))
        self.assertTrue(only_tuples((answer.collation, answer.history)))

    def test_least_collation_and_least_history(self):
        one = ONE.found("x", exactly("ab", ["bb", "ba", "a"]))
        two = TWO.found("x", exactly("ab", ["bb", "a", "ab"]))
        answer = compare_families(one, two, ["x"])
        self.assertEqual((answer.alike, answer.collation, answer.holder), (False, (("a",), ("b",)), 1))
        self.assertEqual(answer.history, history_showing(two, ["x"], answer.collation))
        answer = compare_families(two, one, ["x", "y"])
        self.assertEqual((answer.collation, answer.holder), ((("a", "a"), ("b", "a")), 0))
        self.assertEqual(answer.history[0], "ab")
        # Of several histories with this collation it is the least one.
        free = ONE.found("first", exactly("ab", ["ba", "bb"]))
        answer = compare_families(TWO.found("first", exactly("ab", ["bb"])), free.found("y", exactly("ab", ["aa", "bb"])), ["y"])
        self.assertEqual((answer.collation, answer.holder, answer.history[0]), ((("a",), ("b",)), 0, "bb"))
        answer = compare_families(free, TWO.found("first", nothing("ab")), ["y"])
        self.assertEqual((answer.collation, answer.holder, answer.history[0]), ((("a",), ("a",)), 0, "ba"))

    def test_order_of_the_table(self):
        """The traces are in ascending order of the least sequences of columns."""
        one = Family("ab").copied("x", "first", Hand("ab", [(0, "a", "b", 0, 1), (0, "b", "a", 0, 2), (1, "a", "a", 0, 0), (2, "b", "", 0, 0)], [0]))
        answer = compare_families(one, one, ["x"])
        tracks = [track[0][0][0] for track in reachable(one)]
        self.assertEqual(tracks, [0, 1, 2])
        self.assertEqual(answer.table, (((0,), (0,)), ((2,), (2,)), ((1,), (1,))))

    def test_no_names(self):
        self.assertIs(compare_families(ONE, TWO, []).alike, True)
        self.assertIs(compare_families(ONE, Family("ab"), []).alike, True)
        self.assertEqual(compare_families(ONE, Family("ab").found("first", torn("ab", "?*")), []).collation, ())

    def test_no_histories(self):
        answer = compare_families(STILL, STILL, ["x"])
        self.assertEqual((answer.alike, answer.table), (True, ()))
        self.assertIs(is_likeness_table(STILL, STILL, ["x"], ()), True)
        dead = ONE.found("first", exactly("ab", ["ab"])).found("x", exactly("ab", ["a"]))
        answer = compare_families(STILL, dead, ["x", "first"])
        self.assertEqual((answer.alike, answer.table), (True, (((), (0,)), ((), (1,)))))
        self.assertIs(is_likeness_table(STILL, dead, ["x", "first"], answer.table), True)
        self.assertIs(is_likeness_table(STILL, dead, ["x", "first"], ()), False)
        answer = compare_families(dead, STILL, ["x", "first"])
        self.assertEqual(answer.table, (((0,), ()), ((1,), ())))
        answer = compare_families(STILL, ONE, ["x"])
        self.assertEqual((answer.collation, answer.holder, answer.history), ((), 1, ("", ())))

    def test_errors(self):
        wide = Family("abc").copied("x", "first", Hand.faithful("abc"))
        asks = [compare_families, lambda one, two, names: is_likeness_table(one, two, names, ())]
        for ask in asks:
            with self.assertRaises(AlphabetsDiffer) as caught:
                ask(ONE, wide, ["q"])
            self.assertEqual((caught.exception.one, caught.exception.two), ("ab", "abc"))
            for one, two, names, name in ((ONE, TWO, ["x", "p", "q"], "p"), (TWO, ONE, ["x", "p"], "p"), (ONE, TWO, ["q", "p"], "q"), (STILL, STILL, [""], "")):
                with self.assertRaises(UnknownCopy) as caught:
                    ask(one, two, names)
                self.assertEqual(caught.exception.name, name)

    def test_words_of_the_document(self):
        """The first texts have at most three letters, so all histories are seen."""
        rand = random.Random(96)
        seen = {True: 0, False: 0}
        longest = 0
        while min(seen.values()) < 80:
            family = random_family(rand, copies=2)
            others = [family.lost(name) for name in family.names if family.kept(name) is not None]
            other = rand.choice(others + [random_family(rand, copies=2), family.found("first", lengths(family.alphabet, 0, 2))])
            if other.alphabet != family.alphabet:
                continue
            one, two = [found.found("first", lengths(family.alphabet, 0, 3)) for found in rand.sample([family, other], 2)]
            if not is_small(one, 3, 400) or not is_small(two, 3, 400):
                continue
            shared = [name for name in one.names if name in two.names]
            names = rand.sample(shared, rand.randint(0, len(shared)))
            self.compare(one, two, names, seen)
            longest = max(longest, len(compare_families(one, two, names).table))
        self.assertGreater(longest, 6)

    def compare(self, one, two, names, seen):
        sides = []
        for family in (one, two):
            found = {}
            for was in looked_at(family, 3):
                found.setdefault(collation_in(was, names), as_history(was))
            sides.append(found)
        answer = compare_families(one, two, names)
        unlike = sorted(set(sides[0]) ^ set(sides[1]), key=collation_key)
        seen[answer.alike] += 1
        if unlike:
            holder = 0 if unlike[0] in sides[0] else 1
            expected = {"alike": False, "collation": unlike[0], "holder": holder, "history": sides[holder][unlike[0]], "table": ()}
            self.assertEqual(vars(answer), expected)
            return
        traces = {}
        for side, family in enumerate((one, two)):
            numbers = {track: number for number, track in enumerate(reachable(family))}
            for was in beginnings(family, 3):
                trace = traces.setdefault(collation_in(was, names), (set(), set()))
                trace[side].add(numbers[track_told(family, was, None)])
        ordered = [tuple(tuple(sorted(part)) for part in traces[columns]) for columns in sorted(traces, key=collation_key)]
        self.assertEqual(answer.table, tuple(dict.fromkeys(ordered)))
        self.assertEqual((answer.alike, answer.collation, answer.holder, answer.history), (True, None, None, None))
        self.assertIs(is_likeness_table(one, two, names, answer.table), True)
        for at in range(len(answer.table)):
            self.assertIs(is_likeness_table(one, two, names, answer.table[:at] + answer.table[at + 1:]), False)


class TableTest(unittest.TestCase):
    def setUp(self):
        self.one = ONE.found("first", exactly("ab", ["ab", "b"]))
        self.two = TWO.found("p", exactly("ab", ["ab", "b"]))
        self.table = compare_families(self.one, self.two, ["y"]).table

    def test_what_is_told(self):
        self.assertGreater(len(self.table), 2)
        self.assertIs(is_likeness_table(self.one, self.two, ["y"], self.table), True)
        self.assertIs(is_likeness_table(self.one, self.two, ("y",), lists_of(self.table)), True)
        self.assertIs(is_likeness_table(self.one, self.two, ["y"], self.table[::-1] + self.table[:1]), True)

    def test_one_trace_is_missing(self):
        for at in range(len(self.table)):
            self.assertIs(is_likeness_table(self.one, self.two, ["y"], self.table[:at] + self.table[at + 1:]), False)

    def test_a_trace_too_many(self):
        self.assertIs(is_likeness_table(self.one, self.two, ["y"], self.table + (((), ()),)), True)
        full = [trace for trace in self.table if trace[0] != (0,)][-1]
        self.assertIs(is_likeness_table(self.one, self.two, ["y"], self.table + ((full[0], ()),)), False)
        self.assertIs(is_likeness_table(self.one, self.two, ["y"], self.table + (((0,), ()),)), False)

    def test_families_that_do_not_look_alike(self):
        other = self.two.found("y", torn("ab", "*b"))
        self.assertIs(is_likeness_table(self.one, other, ["y"], self.table), False)
        self.assertIs(is_likeness_table(ONE, STILL, ["y"], ()), False)
        self.assertIs(is_likeness_table(ONE, STILL, ["y"], (((0,), ()),)), False)
        self.assertIs(is_likeness_table(STILL, ONE, ["y"], (((), (0,)),)), False)


if __name__ == "__main__":
    unittest.main()

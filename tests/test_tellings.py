"""Points 90 to 93."""

import random
import unittest

from firsthand.claims import Claim
from firsthand.collations import collation_of, told_blocks
from firsthand.errors import AlphabetsDiffer, UnknownCopy
from firsthand.families import Family
from firsthand.hands import Hand
from firsthand.histories import blocks
from firsthand.setmaking import everything, exactly, lengths, nothing, torn
from firsthand.tellings import is_telling_table, telling
from firsthand.tracks import start_track
from firsthand.walks import histories
from tests.brute import lists_of, only_tuples
from tests.test_collations import collation_in
from tests.worlds import as_history, beginnings, looked_at, random_worlds, text_key, track_told

FAITHFUL = Hand.faithful("ab")
HAND = Hand.of_faults("ab", [("omit", "b", 1), ("double", "a", 2)])
BLURRED = Hand("ab", [(0, "a", "a", 0, 0), (0, "b", "a", 1, 0), (0, "b", "b", 0, 0)], [0])
PAIR = Family("ab").copied("x", "first", FAITHFUL).copied("y", "x", HAND)
LOSSY = Family("ab").copied("x", "first", BLURRED).copied("y", "first", BLURRED).copied("z", "y", FAITHFUL)


def collation_key(collation):
    return (len(collation), [[text_key(block) for block in column] for column in collation])


def twins_told(family, names, told, supposed, places):
    """All twin tracks of beginnings with at most so many places."""
    groups = {}
    for was in beginnings(family, places):
        groups.setdefault(collation_in(was, names), []).append((track_told(family, was, supposed), was["blocks"][told]))
    return {(one, two, left != right) for group in groups.values() for one, left in set(group) for two, right in set(group)}


class TellingTest(unittest.TestCase):
    def test_always(self):
        answer = telling(PAIR, ["x"])
        start = start_track(PAIR, None)
        self.assertEqual(vars(answer), {
            "always": True, "collation": None, "place": None, "one": None, "two": None, "table": ((start, start, False),),
        })
        self.assertIs(answer.always, True)
        for names in (["y"], ["y", "x"]):
            self.assertIs(telling(PAIR, names).always, True)

    def test_not_always(self):
        answer = telling(LOSSY, ["x"])
        self.assertIs(answer.always, False)
        self.assertEqual((answer.collation, answer.place, answer.table), ((("a",),), 0, ()))
        self.assertEqual((answer.one[0], answer.two[0]), ("a", "b"))
        self.assertTrue(only_tuples((answer.collation, answer.one, answer.two)))
        # If both write "b" in different ways, together they still do not tell it.
        self.assertEqual(telling(LOSSY, ["x", "y"]).collation, (("a", "a"),))

    def test_both_histories_are_the_least_ones(self):
        """The blocks are the first two in the order of texts, at the first place at which there are two."""
        hand = Hand("ab", [(0, "a", "b", 0, 1), (0, "b", "b", 0, 1), (1, "a", "", 0, 1), (1, "a", "aab", 0, 1), (1, "a", "bb", 1, 1)], [1])
        family = Family("ab").copied("x", "first", hand).found("first", exactly("ab", ["aa", "a"]))
        answer = telling(family, ["first"], told="x")
        self.assertEqual((answer.collation, answer.place), ((("a",), ("a",)), 1))
        first_block, next_block = [blocks(family, history)[1][1] for history in (answer.one, answer.two)]
        self.assertEqual((first_block, next_block), ("", "bb"))
        self.assertEqual(answer.one, ("aa", (((("b", 0),),), ((("", 0),),))))
        self.assertEqual(told_blocks(family, ["first"], answer.collation, told="x"), (("b",), ("", "bb", "aab")))

    def test_least_collation(self):
        """The least collation is not the one of the least histories."""
        hand = Hand("ab", [(0, "a", "b", 0, 0), (0, "b", "a", 0, 1), (0, "a", "a", 0, 1), (1, "b", "b", 0, 1), (0, "b", "b", 0, 0)], [0, 1])
        family = Family("ab").copied("x", "first", hand)
        answer = telling(family, ["x"])
        self.assertEqual((answer.collation, answer.one[0], answer.two[0]), ((("a",),), "a", "b"))
        answer = telling(family.found("x", torn("ab", "b*")).found("first", lengths("ab", 2, 9)), ["x"])
        self.assertEqual((answer.collation, answer.place), ((("b",), ("a",)), 0))
        self.assertEqual((answer.one[0], answer.two[0]), ("aa", "ba"))

    def test_least_column(self):
        """The columns are in the order of texts, not in that of the first letters."""
        rules = [(0, "a", "c", 0, 0), (0, "b", "aa", 0, 0), (0, "b", "b", 0, 0), (0, "b", "c", 0, 0), (0, "c", "b", 0, 0), (0, "c", "aa", 0, 0)]
        family = Family("abc").copied("x", "first", Hand("abc", rules, [0]))
        answer = telling(family, ["x"])
        self.assertEqual((answer.collation, answer.one[0], answer.two[0]), ((("b",),), "b", "c"))
        later = telling(family.found("x", torn("abc", "c?*")).found("first", torn("abc", "a?*")), ["x"])
        self.assertEqual((later.collation, later.place), ((("c",), ("b",)), 1))

    def test_many_columns(self):
        """The blocks differ at the first place, but the histories go on for many places."""
        family = Family("ab").copied("x", "first", Hand("ab", [(0, "a", "a", 0, 1), (0, "b", "a", 0, 1), (1, "a", "a", 0, 1)], [1]))
        family = family.found("x", torn("ab", "a" * 30))
        answer = telling(family, ["x"])
        self.assertEqual((answer.collation, answer.place), ((("a",),) * 30, 0))
        self.assertEqual((answer.one[0], answer.two[0]), ("a" * 30, "b" + "a" * 29))

    def test_no_names(self):
        self.assertIs(telling(PAIR, [], told="first").always, False)
        self.assertEqual(telling(PAIR, [], told="first").collation, ((),))
        only = Family("a").copied("x", "first", Hand.faithful("a"))
        self.assertIs(telling(only, [], told="x").always, True)
        self.assertIs(telling(PAIR.found("first", exactly("ab", ["ab", "a"])), []).always, True)
        self.assertIs(telling(PAIR.found("first", exactly("ab", ["ab", "aa"])), []).always, False)

    def test_told_among_the_names(self):
        for told in LOSSY.names:
            answer = telling(LOSSY, ["z", told] if told != "z" else ["z"], told=told)
            self.assertIs(answer.always, True)
            self.assertFalse([twin for twin in answer.table if twin[2]])
            self.assertGreater(len(answer.table), 0)

    def test_told_other_than_first(self):
        self.assertIs(telling(LOSSY, ["y"], told="z").always, True)
        self.assertIs(telling(LOSSY, ["x"], told="z").always, False)
        self.assertIs(telling(LOSSY, ["first"], told="x").always, False)

    def test_supposed(self):
        self.assertIs(telling(LOSSY, ["x"], supposed=Claim.slips("x", 0)).always, True)
        answer = telling(LOSSY, ["x"], supposed=~Claim.slips("x", 1))
        self.assertEqual((answer.collation, answer.one[0], answer.two[0]), ((("a",),) * 3, "abb", "bab"))
        self.assertIs(telling(LOSSY, ["x"], supposed=Claim.slips("x", 1) & ~Claim.slips("x", 1)).always, True)

    def test_no_start_track_and_no_history(self):
        answer = telling(LOSSY.found("x", nothing("ab")), ["x"])
        self.assertEqual((answer.always, answer.table), (True, ()))
        answer = telling(LOSSY.found("x", exactly("ab", ["a"])).found("first", exactly("ab", ["aa"])), [])
        self.assertIs(answer.always, True)
        self.assertTrue([twin for twin in answer.table if not twin[2]])

    def test_blocks_that_part_without_histories(self):
        """A twin track with different blocks is in the table if no two histories end with it."""
        family = LOSSY.found("first", torn("ab", "ab"))
        answer = telling(family, ["x"])
        self.assertIs(answer.always, True)
        family = LOSSY.found("first", exactly("ab", ["ab", "ba"])).found("y", exactly("ab", ["ab"]))
        answer = telling(family, ["x"])
        self.assertIs(answer.always, True)
        self.assertTrue([twin for twin in answer.table if twin[2]])
        self.assertIs(is_telling_table(family, ["x"], answer.table), True)

    def test_words_of_the_document(self):
        """The first text has at most three letters, so all histories are seen."""
        rand = random.Random(90)
        seen = {True: 0, False: 0}
        for family, _, supposed in random_worlds(90, 250, places=3, most=300):
            family = family.found("first", lengths(family.alphabet, 0, 3))
            names = rand.sample(family.names, rand.randint(0, min(2, len(family.names))))
            told = rand.choice(family.names)
            groups = {}
            for was in looked_at(family, 3, supposed):
                groups.setdefault(collation_in(was, names), []).append(was)
            parted = [collation for collation, group in groups.items() if len({was["blocks"][told] for was in group}) > 1]
            answer = telling(family, names, told=told, supposed=supposed)
            seen[answer.always] += 1
            if not parted:
                self.assertEqual(set(answer.table), twins_told(family, names, told, supposed, 3))
                self.assertEqual((answer.always, len(set(answer.table))), (True, len(answer.table)))
                self.assertIs(is_telling_table(family, names, answer.table, told=told, supposed=supposed), True)
                self.assertEqual((answer.collation, answer.place, answer.one, answer.two), (None, None, None, None))
                continue
            collation = min(parted, key=collation_key)
            here = groups[collation]
            several = [sorted({was["blocks"][told][place] for was in here}, key=text_key) for place in range(len(collation))]
            place = [len(found) > 1 for found in several].index(True)
            one, two = [next(as_history(was) for was in here if was["blocks"][told][place] == block) for block in several[place][:2]]
            self.assertEqual(vars(answer), {"always": False, "collation": collation, "place": place, "one": one, "two": two, "table": ()})
        self.assertGreater(min(seen.values()), 20)

    def test_infinitely_many_histories(self):
        rand = random.Random(91)
        for family, _, supposed in random_worlds(91, 40, places=2, most=300, atoms=1):
            names, told = rand.sample(family.names, min(2, len(family.names))), rand.choice(family.names)
            answer = telling(family, names, told=told, supposed=supposed)
            if answer.always:
                self.assertIs(is_telling_table(family, names, answer.table, told=told, supposed=supposed), True)
                known = {}
                for history in histories(family, places=2, supposed=supposed):
                    rows = collation_of(family, history, [told])
                    self.assertEqual(known.setdefault(collation_of(family, history, names), rows), rows)
            else:
                one, two = [collation_of(family, history, names) for history in (answer.one, answer.two)]
                self.assertEqual((one, two), (answer.collation,) * 2)
                found = told_blocks(family, names, one, told=told, supposed=supposed)
                self.assertEqual([len(several) > 1 for several in found].index(True), answer.place)
                for history, block in zip((answer.one, answer.two), found[answer.place]):
                    self.assertEqual(collation_of(family, history, [told])[answer.place], (block,))


class TableTest(unittest.TestCase):
    def setUp(self):
        self.family = LOSSY.found("first", exactly("ab", ["ab", "ba"])).found("y", exactly("ab", ["ab"]))
        self.table = telling(self.family, ["x"]).table

    def test_what_is_told(self):
        self.assertIs(is_telling_table(self.family, ["x"], self.table), True)
        self.assertIs(is_telling_table(self.family, ("x",), lists_of(self.table)), True)
        self.assertIs(is_telling_table(self.family, ["x"], self.table[::-1] + self.table), True)

    def test_one_twin_track_is_missing(self):
        self.assertGreater(len(self.table), 4)
        for at in range(len(self.table)):
            self.assertIs(is_telling_table(self.family, ["x"], self.table[:at] + self.table[at + 1:]), False)

    def test_without_the_start(self):
        self.assertIs(is_telling_table(self.family, ["x"], ()), False)
        self.assertIs(is_telling_table(self.family, ["x"], self.table[1:]), False)
        parted = (self.table[0][0], self.table[0][1], True)
        self.assertIs(is_telling_table(PAIR, ["x"], (parted,)), False)

    def test_the_order_of_both_tracks_counts(self):
        uneven = [twin for twin in self.table if twin[0] != twin[1]]
        self.assertTrue(uneven)
        for one, two, parted in uneven:
            self.assertIn((two, one, parted), self.table)
            left = [twin for twin in self.table if twin != (two, one, parted)]
            self.assertIs(is_telling_table(self.family, ["x"], left), False)

    def test_more_than_needed(self):
        """Twin tracks that no beginnings lead to are judged, too."""
        start, _, _ = self.table[0]
        standing, mark = start
        fine = ((standing, mark), (standing, mark), True)
        self.assertNotIn(fine, self.table)
        more = [(one, two, True) for one, two, parted in self.table if not parted]
        free = [twin for twin in self.table + tuple(more)]
        self.assertIs(is_telling_table(self.family, ["x"], free), False)
        dead = (((0, 0, 0), (2, None, 0, None)), ())
        self.assertIs(is_telling_table(self.family, ["x"], self.table + ((dead, dead, False),)), False)
        self.assertIs(is_telling_table(PAIR, ["x"], telling(PAIR, ["x"]).table + ((start_track(PAIR, None),) * 2 + (True,),)), False)

    def test_needless_twins_are_allowed(self):
        family = PAIR.found("first", exactly("ab", ["a"]))
        table = telling(family, ["x"]).table
        dead = (((0, 0), (1, None, None)), ())
        self.assertIn(dead, [twin[0] for twin in table])
        left = (dead, (((0, 0), (0, None, None)), ()), False)
        self.assertNotIn(left, table)
        self.assertIs(is_telling_table(family, ["x"], table + (left,)), True)

    def test_a_track_that_stands_only_at_the_second_place(self):
        family = Family("ab").copied("x", "first", FAITHFUL).copied("y", "x", Hand.of_faults("ab", [("omit", "b", 1)], limit=1))
        family = family.found("first", exactly("ab", ["a", "b"]))
        table = telling(family, ["x"]).table
        start, other = table[0][0], (((0, 1), (0, None, None)), ())
        self.assertNotIn(other, [twin[0] for twin in table])
        self.assertIs(is_telling_table(family, ["x"], table + ((start, other, False),)), True)
        self.assertIs(is_telling_table(family, ["x"], table + ((other, start, False),)), True)
        self.assertIs(is_telling_table(family, ["x"], table + ((start, other, True),)), False)

    def test_no_start_track(self):
        family = LOSSY.found("x", nothing("ab"))
        self.assertIs(is_telling_table(family, ["x"], ()), True)

    def test_supposed(self):
        claim = Claim.slips("x", 0)
        table = telling(LOSSY, ["x"], supposed=claim).table
        self.assertIs(is_telling_table(LOSSY, ["x"], table, supposed=claim), True)
        self.assertIs(is_telling_table(LOSSY, ["x"], table, supposed=Claim.slips("x", 1)), False)
        self.assertIs(is_telling_table(LOSSY, ["y"], table, supposed=claim), False)
        self.assertIs(is_telling_table(LOSSY, ["x"], table, told="y", supposed=claim), False)

    def test_a_table_for_what_is_not_told(self):
        twins = twins_told(LOSSY, ["x"], "first", None, 2)
        self.assertIs(is_telling_table(LOSSY, ["x"], tuple(twins)), False)


class ErrorsTest(unittest.TestCase):
    def test_order(self):
        strange, wide = Claim.slips("q", 1), Claim.lies("x", everything("abc"))
        for family in (LOSSY, LOSSY.found("x", nothing("ab"))):
            asks = [lambda names, told, supposed: telling(family, names, told=told, supposed=supposed),
                    lambda names, told, supposed: is_telling_table(family, names, (), told=told, supposed=supposed)]
            for ask in asks:
                given = [(["x", "r", "s"], "t", wide, "r"), (["x"], "t", wide, "t"), (["x"], "first", strange & wide, "q"), ([], "", strange, "")]
                for names, told, supposed, name in given:
                    with self.assertRaises(UnknownCopy) as caught:
                        ask(names, told, supposed)
                    self.assertEqual(caught.exception.name, name)
                self.assertRaises(AlphabetsDiffer, lambda: ask(["x"], "y", wide & strange))


if __name__ == "__main__":
    unittest.main()

"""Point 58: the items of marks."""

import itertools
import unittest

from firsthand.claims import Claim
from firsthand.families import Family
from firsthand.hands import Hand
from firsthand.marks import mark_after, mark_holds, mark_start
from firsthand.setmaking import everything, exactly, nothing
from firsthand.standings import follow, start_standing
from tests.brute import lists_of, only_tuples
from tests.worlds import as_history, beginnings, item_told, keeps, random_worlds, standing_told

HAND = Hand.of_faults("ab", [("omit", "b", 1), ("double", "a", 2)])
FAMILY = Family("ab").copied("x", "first", HAND).joined("j", "first", "x", cost=3).conflated("c", "first", "x", cost=0)
START = ((0, (None, 0), (None, 0)), (None,) * 4)
# Columns with the letter "a" or "b" before them.
PLAIN = ("a", ((("a", 0),), 0, 0))
DOUBLE = ("a", ((("aa", 2),), 0, 0))
TURNED = ("a", ((("a", 0),), 1, 0))
ADDED = ("a", ((("aa", 2),), 0, 1))
OMITTED = ("b", ((("", 1),), 0, 0))


class MarkCase(unittest.TestCase):
    def goes_on(self, claim, item, move, after, standing=START):
        """The item of an atomic claim after a move."""
        for passed in (standing, lists_of(standing)):
            for column in (move[1], lists_of(move[1])):
                found = mark_after(FAMILY, claim, (item,), passed, move[0], column)
                self.assertEqual(found, (after,))
                self.assertIsInstance(found, tuple)
        self.assertEqual(mark_after(FAMILY, claim, [item], standing, *move), (after,))

    def ends(self, claim, answers):
        for item, answer in answers.items():
            self.assertIs(mark_holds(claim, (item,)), answer)
            self.assertIs(mark_holds(claim, [item]), answer)


class ItemsTest(MarkCase):
    def test_lies(self):
        texts = exactly("ab", ["aa", "aab"])
        claim = Claim.lies("x", texts)
        self.assertEqual(mark_start(claim), (0,))
        self.goes_on(claim, 0, PLAIN, texts.state_after("a"))
        self.goes_on(claim, 0, DOUBLE, texts.state_after("aa"))
        self.goes_on(claim, texts.state_after("a"), DOUBLE, None)
        self.goes_on(claim, texts.state_after("a"), OMITTED, texts.state_after("a"))
        self.goes_on(claim, None, PLAIN, None)
        self.goes_on(claim, None, OMITTED, None)
        self.ends(claim, {0: False, 1: False, 2: True, 3: True, None: False})

    def test_lies_in_the_empty_set(self):
        claim = Claim.lies("x", nothing("ab"))
        self.assertEqual(mark_start(claim), (None,))
        self.goes_on(claim, None, OMITTED, None)
        self.ends(claim, {None: False})

    def test_reads(self):
        claim = Claim.reads("x", 2, "aa")
        self.assertEqual(mark_start(claim), (0,))
        for item, after in ((0, 1), (1, 2), (2, 4), (3, 3), (4, 4)):
            self.goes_on(claim, item, PLAIN, after)
        for item, after in ((0, 1), (1, 2), (2, 3), (3, 3), (4, 4)):
            self.goes_on(claim, item, DOUBLE, after)
        self.ends(claim, {0: False, 1: False, 2: False, 3: True, 4: False})
        claim = Claim.reads("first", 0, "a")
        self.goes_on(claim, 0, DOUBLE, 1)
        self.goes_on(claim, 0, OMITTED, 2)
        self.ends(claim, {0: False, 1: True, 2: False})

    def test_apart(self):
        claim = Claim.apart("x", "first", 1)
        self.assertEqual(mark_start(claim), (0,))
        for item, after in ((0, 1), (1, 2), (2, 2)):
            self.goes_on(claim, item, DOUBLE, after)
            self.goes_on(claim, item, OMITTED, after)
            self.goes_on(claim, item, PLAIN, item)
        self.goes_on(Claim.apart("c", "c", 0), 1, ADDED, 1)
        self.goes_on(Claim.apart("c", "x", 0), 0, ADDED, 1)
        self.ends(claim, {0: True, 1: True, 2: False})

    def test_slips(self):
        claim = Claim.slips("x", 1)
        self.assertEqual(mark_start(claim), (0,))
        for item, after in ((0, 1), (1, 2), (2, 2)):
            self.goes_on(claim, item, DOUBLE, after)
            self.goes_on(claim, item, PLAIN, item)
        self.ends(claim, {0: True, 1: True, 2: False})
        self.goes_on(Claim.slips("first", 0), 0, ADDED, 0)
        self.goes_on(Claim.slips("first", 0), 1, ADDED, 1)
        self.goes_on(Claim.slips("c", 3), 1, ADDED, 2)
        self.goes_on(Claim.slips("c", 3), 1, DOUBLE, 1)

    def test_slips_of_several_letters(self):
        hand = Hand("ab", [(0, "a", "aa", 1, 0)], [0])
        family = Family("ab").copied("x", "first", hand).copied("y", "x", hand)
        column = ((("aa", 1),), (("aa", 1), ("aa", 1)))
        for item, after in ((0, 2), (1, 3), (2, 4), (3, 4), (4, 4)):
            self.assertEqual(mark_after(family, Claim.slips("y", 3), (item,), ((0, 0), (None,) * 3), "a", column), (after,))

    def test_slips_of_a_joined_copy(self):
        claim = Claim.slips("j", 2)
        for last, move, more in ((None, TURNED, 0), (None, PLAIN, 0), (0, TURNED, 1), (1, TURNED, 0), (1, PLAIN, 1), (0, PLAIN, 0)):
            standing = ((0, (last, 0), (None, 0)), (None,) * 4)
            self.goes_on(claim, 1, move, 1 + more, standing)
            self.goes_on(claim, 3, move, 3, standing)

    def test_costs(self):
        claim = Claim.costs(4)
        self.assertEqual(mark_start(claim), (0,))
        for item, after in ((0, 2), (2, 4), (3, 5), (4, 5), (5, 5)):
            self.goes_on(claim, item, DOUBLE, after)
            self.goes_on(claim, item, ADDED, after)
        self.goes_on(claim, 1, TURNED, 4, ((0, (0, 0), (None, 0)), (None,) * 4))
        self.goes_on(claim, 3, PLAIN, 3)
        self.ends(claim, {0: True, 4: True, 5: False})

    def test_shows(self):
        claim = Claim.shows(["x", "first", "x"], [("aa", "a", "aa"), ("", "b", "")])
        self.assertEqual(mark_start(claim), (0,))
        self.goes_on(claim, 0, DOUBLE, 1)
        self.goes_on(claim, 0, PLAIN, None)
        self.goes_on(claim, 1, OMITTED, 2)
        self.goes_on(claim, 1, DOUBLE, None)
        self.goes_on(claim, 2, OMITTED, None)
        self.goes_on(claim, None, DOUBLE, None)
        self.ends(claim, {0: False, 1: False, 2: True, None: False})

    def test_shows_nothing(self):
        self.goes_on(Claim.shows([], [(), ()]), 1, DOUBLE, 2)
        self.goes_on(Claim.shows([], [(), ()]), 2, DOUBLE, None)
        self.ends(Claim.shows(["x"], []), {0: True, None: False})
        self.goes_on(Claim.shows(["x"], []), 0, DOUBLE, None)


class WholeMarksTest(MarkCase):
    def test_items_go_on_by_themselves(self):
        claim = (Claim.reads("x", 0, "aa") & ~Claim.slips("x", 0)) | Claim.costs(1) & Claim.lies("x", everything("ab"))
        self.assertEqual(mark_start(claim), (0, 0, 0, 0))
        # The items contradict each other; each of them goes on as if it were alone.
        self.assertEqual(mark_after(FAMILY, claim, (0, 0, 2, None), START, *DOUBLE), (1, 1, 2, None))
        self.assertEqual(mark_after(FAMILY, claim, (2, 0, 0, 0), START, *PLAIN), (2, 0, 0, 0))
        for reads, slips, costs, lies in itertools.product((0, 1, 2), (0, 1), (0, 1, 2), (0, None)):
            answer = reads == 1 and slips == 1 or costs <= 1 and lies == 0
            self.assertIs(mark_holds(claim, (reads, slips, costs, lies)), answer)

    def test_operators(self):
        yes, no = (0,), (1,)
        one, two = Claim.slips("x", 0), Claim.slips("j", 0)
        for left, right in itertools.product((yes, no), repeat=2):
            self.assertIs(mark_holds(one & two, left + right), left == yes and right == yes)
            self.assertIs(mark_holds(one | two, left + right), left == yes or right == yes)
            self.assertIs(mark_holds(~one & two, left + right), left == no and right == yes)
            self.assertIs(mark_holds(~(one | ~two), left + right), left == no and right == yes)
            self.assertIs(mark_holds((one & two) | ~one, left + right + left), left == no or right == yes)

    def test_words_of_the_document(self):
        for family, claim, supposed in random_worlds(58, 120):
            for claim in (claim, supposed or claim):
                for was in beginnings(family, 3)[:60]:
                    mark, standing = mark_start(claim), start_standing(family)
                    for letter, column in zip(*as_history(was)):
                        mark = mark_after(family, claim, mark, standing, letter, column)
                        standing = follow(family, standing, letter, column)[1]
                    self.assertEqual(standing, standing_told(family, was))
                    self.assertEqual(mark, tuple(item_told(family, was, atom) for atom in claim.atoms))
                    self.assertTrue(only_tuples(mark))
                    self.assertIs(mark_holds(claim, mark), keeps(family, was, claim))


if __name__ == "__main__":
    unittest.main()

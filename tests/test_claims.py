"""Points 54 to 57: claims, whether they fit a family, and whether they hold."""

import random
import unittest

from firsthand.claims import Claim, check_claim
from firsthand.errors import AlphabetsDiffer, BadHistory, UnknownCopy
from firsthand.families import Family
from firsthand.hands import Hand
from firsthand.marks import holds
from firsthand.setmaking import everything, exactly, nothing, torn
from tests.brute import lists_of, only_tuples
from tests.worlds import as_history, keeps, looked_at, random_claim, random_worlds

HAND = Hand.of_faults("ab", [("omit", "b", 1), ("double", "a", 2)])
FAMILY = Family("ab").copied("x", "first", HAND).corrected("y", "first", "x", cost=3).joined("j", "first", "x", cost=3)
TEXTS = torn("ab", "a*")
# The texts: first abab, x aaaab, y aaaab, j aaab. The blocks at the last place of x and y are "b" and "b".
HISTORY = ("abab", tuple(
    (entry, y, j) for entry, y, j in [((("aa", 2),), 1, 0), ((("", 1),), 1, 0), ((("aa", 2),), 1, 1), ((("b", 0),), 0, 1)]
))


class TreeTest(unittest.TestCase):
    ATOMS = [
        (Claim.lies("x", TEXTS), ("lies", "x", TEXTS)), (Claim.reads("x", 12, "ab"), ("reads", "x", 12, "ab")),
        (Claim.apart("x", "first", 9), ("apart", "x", "first", 9)), (Claim.slips("x", 0), ("slips", "x", 0)),
        (Claim.costs(99), ("costs", 99)), (Claim.shows(["x", "x"], [["a", ""]]), ("shows", ("x", "x"), (("a", ""),))),
        (Claim.shows([], []), ("shows", (), ())), (Claim.shows((), ((), ())), ("shows", (), ((), ()))),
    ]

    def test_atoms(self):
        for claim, tree in self.ATOMS:
            self.assertIsInstance(claim, Claim)
            self.assertEqual((claim.tree, claim.atoms), (tree, (tree,)))
            self.assertTrue(only_tuples(claim.tree))

    def test_operators(self):
        (one, left), (two, right) = self.ATOMS[:2]
        self.assertEqual((one & two).tree, ("and", left, right))
        self.assertEqual((one | two).tree, ("or", left, right))
        self.assertEqual((~one).tree, ("not", left))
        whole = ~(one & two | ~two) & one
        self.assertEqual(whole.tree, ("and", ("not", ("or", ("and", left, right), ("not", right))), left))
        self.assertEqual(whole.atoms, (left, right, right, left))
        self.assertEqual((one.tree, two.tree), (left, right))

    def test_of(self):
        rand = random.Random(55)
        for _ in range(60):
            claim = random_claim(rand, FAMILY)
            for tree in (claim.tree, lists_of(claim.tree)):
                again = Claim.of(tree)
                self.assertEqual(again, claim)
                self.assertEqual((again.tree, again.atoms), (claim.tree, claim.atoms))
                self.assertTrue(only_tuples(again.tree))

    def test_equality(self):
        claims = [claim for claim, _ in self.ATOMS] + [~self.ATOMS[0][0], self.ATOMS[0][0] & self.ATOMS[1][0]]
        for at, one in enumerate(claims):
            for other, two in enumerate(claims):
                self.assertIs(one == Claim.of(two.tree), at == other)
            self.assertIs(one == one.tree, False)
            self.assertIs(one == None, False)  # noqa: E711
            self.assertIs(one != one.tree, True)
        self.assertEqual(Claim.lies("x", torn("ab", "*a*")), Claim.lies("x", ~exactly("ab", []) & torn("ab", "*a*")))
        self.assertNotEqual(Claim.lies("x", nothing("ab")), Claim.lies("x", nothing("abc")))
        one, two = Claim.costs(1), Claim.costs(2)
        self.assertNotEqual(one & two, two & one)
        self.assertNotEqual(one & two, one | two)

    def test_arguments_are_copied(self):
        names, rows = ["x"], [["a"]]
        claim = Claim.shows(names, rows)
        names.append("y")
        rows[0][0] = "b"
        rows.append(["a"])
        self.assertEqual(claim.tree, ("shows", ("x",), (("a",),)))
        tree = ["not", ["costs", 1]]
        claim = Claim.of(tree)
        tree[1][1] = 2
        self.assertEqual(claim.tree, ("not", ("costs", 1)))


class CheckTest(unittest.TestCase):
    def check(self, claim, error, *fields):
        with self.assertRaises(error) as caught:
            check_claim(FAMILY, claim)
        self.assertEqual(tuple(vars(caught.exception).values()), fields)

    def test_fits(self):
        for claim, _ in TreeTest.ATOMS:
            self.assertIsNone(check_claim(FAMILY, claim))
        self.assertIsNone(check_claim(FAMILY, Claim.apart("first", "first", 0) & ~Claim.slips("j", 1)))
        self.assertIsNone(check_claim(Family("ab"), Claim.costs(0)))

    def test_names(self):
        self.check(Claim.lies("q", TEXTS), UnknownCopy, "q")
        self.check(Claim.reads("First", 0, "a"), UnknownCopy, "First")
        self.check(Claim.slips("x1", 0), UnknownCopy, "x1")
        self.check(Claim.apart("q", "r", 0), UnknownCopy, "q")
        self.check(Claim.apart("x", "r", 0), UnknownCopy, "r")
        self.check(Claim.shows(["x", "r", "q"], []), UnknownCopy, "r")

    def test_alphabets(self):
        self.check(Claim.lies("x", everything("abc")), AlphabetsDiffer, "ab", "abc")
        self.check(Claim.lies("q", everything("abc")), UnknownCopy, "q")

    def test_first_atom_that_does_not_fit(self):
        wrong, other = Claim.lies("x", everything("a")), Claim.slips("q", 0)
        self.check(Claim.costs(1) & (~wrong | other), AlphabetsDiffer, "ab", "a")
        self.check(~other & wrong, UnknownCopy, "q")
        self.check((Claim.costs(1) | Claim.slips("r", 0)) & other, UnknownCopy, "r")


class HoldsTest(unittest.TestCase):
    def holds(self, claim, answer):
        for passed in (HISTORY, lists_of(HISTORY)):
            self.assertIs(holds(FAMILY, passed, claim), answer)
            self.assertIs(holds(FAMILY, passed, ~claim), not answer)

    def test_lies(self):
        self.holds(Claim.lies("x", exactly("ab", ["aaaab"])), True)
        self.holds(Claim.lies("j", exactly("ab", ["abaab"])), True)
        self.holds(Claim.lies("first", exactly("ab", ["aaaab"])), False)
        self.holds(Claim.lies("x", nothing("ab")), False)

    def test_reads(self):
        self.holds(Claim.reads("x", 0, "aa"), True)
        self.holds(Claim.reads("x", 1, ""), True)
        self.holds(Claim.reads("x", 3, "b"), True)
        self.holds(Claim.reads("x", 3, "a"), False)
        self.holds(Claim.reads("x", 4, "b"), False)
        self.holds(Claim.reads("x", 12, ""), False)
        self.holds(Claim.reads("first", 1, "b"), True)

    def test_apart(self):
        for most in range(5):
            self.holds(Claim.apart("first", "x", most), most >= 3)
            self.holds(Claim.apart("x", "j", most), most >= 2)
            self.holds(Claim.apart("x", "y", most), True)
            self.holds(Claim.apart("x", "x", most), True)

    def test_slips(self):
        for most in range(5):
            self.holds(Claim.slips("x", most), most >= 3)
            self.holds(Claim.slips("y", most), most >= 3)
            self.holds(Claim.slips("j", most), most >= 1)
            self.holds(Claim.slips("first", most), True)

    def test_costs(self):
        for most in (0, 16, 17, 18, 99):
            self.holds(Claim.costs(most), most >= 5 + 9 + 3)

    def test_shows(self):
        rows = [("aa", "a"), ("", "b"), ("aa", "a"), ("b", "b")]
        self.holds(Claim.shows(["x", "first"], rows), True)
        self.holds(Claim.shows(["x", "first"], rows[:3]), False)
        self.holds(Claim.shows(["x", "first"], rows + [("b", "b")]), False)
        self.holds(Claim.shows(["first", "x"], rows), False)
        self.holds(Claim.shows(["x", "first", "x"], [(*row, row[0]) for row in rows]), True)
        self.holds(Claim.shows([], [()] * 4), True)
        self.holds(Claim.shows([], [()] * 3), False)
        self.holds(Claim.shows([], []), False)

    def test_no_places(self):
        for claim, answer in [
            (Claim.lies("x", everything("ab")), True), (Claim.lies("x", torn("ab", "?")), False), (Claim.reads("x", 0, ""), False),
            (Claim.apart("x", "y", 0), True), (Claim.slips("x", 0), True), (Claim.costs(0), True), (Claim.shows(["x"], []), True),
            (Claim.shows([], [()]), False),
        ]:
            self.assertIs(holds(FAMILY, ("", []), claim), answer)

    def test_operators(self):
        yes, no = Claim.slips("first", 0), Claim.costs(0)
        for one, left in ((yes, True), (no, False)):
            for two, right in ((yes, True), (no, False)):
                self.holds(one & two, left and right)
                self.holds(one | two, left or right)
                self.holds(~(one & ~two) | (two & one), not (left and not right) or (left and right))

    def test_errors_and_their_order(self):
        bad = ("a", (((("b", 0),), 0, 0),))
        for history in (HISTORY, bad):
            with self.assertRaises(UnknownCopy) as caught:
                holds(FAMILY, history, Claim.costs(3) & Claim.apart("x", "q", 0))
            self.assertEqual(caught.exception.name, "q")
            with self.assertRaises(AlphabetsDiffer):
                holds(FAMILY, history, Claim.lies("x", everything("b")))
        with self.assertRaises(BadHistory) as caught:
            holds(FAMILY, bad, Claim.costs(0))
        self.assertEqual((caught.exception.place, caught.exception.name), (0, "x"))
        with self.assertRaises(BadHistory) as caught:
            holds(FAMILY.found("y", exactly("ab", ["aaaabb"])), HISTORY, Claim.costs(0))
        self.assertEqual((caught.exception.place, caught.exception.name), (4, "y"))

    def test_words_of_the_document(self):
        answers = []
        for family, claim, supposed in random_worlds(57, 150):
            for was in looked_at(family, 3)[:25]:
                for one in (claim, supposed or claim):
                    answers.append(holds(family, as_history(was), one))
                    self.assertIs(answers[-1], keeps(family, was, one))
        self.assertGreater(answers.count(True), 100)
        self.assertGreater(answers.count(False), 100)


if __name__ == "__main__":
    unittest.main()

from firsthand.errors import CannotContract, UnknownCopy
from firsthand.families import Family
from firsthand.hands import Hand
from firsthand.pruning import contracted, restricted
from firsthand.setmaking import everything, exactly, torn
from tests.test_families import FAITHFUL, FamilyCase

MISTAKE = Hand.of_faults("ab", [("mistake", "a", "b", 2)])
OMIT = Hand.of_faults("ab", [("omit", "b", 3)])


class RestrictedTest(FamilyCase):
    def setUp(self):
        family = Family("ab").copied("a", "first", MISTAKE).copied("b", "a", OMIT).joined("c", "first", "b", most=3, cost=4)
        family = family.copied("d", "a", FAITHFUL).corrected("e", "d", "d")
        self.family = family.found("first", torn("ab", "a*")).found("b", torn("ab", "b*")).found("d", everything("ab"))

    def test_ancestors_stay(self):
        cases = [
            ([], ("first",)), (["first"], ("first",)), (["a"], ("first", "a")), (["c"], ("first", "a", "b", "c")),
            (["e", "a"], ("first", "a", "d", "e")), (("e", "c"), ("first", "a", "b", "c", "d", "e")),
            (["b", "b", "d"], ("first", "a", "b", "d")),
        ]
        for names, stay in cases:
            made = restricted(self.family, names)
            self.assertEqual(made.names, stay)
            self.assertEqual(made.alphabet, "ab")
            for name in stay:
                self.assertEqual(made.kept(name), self.family.kept(name))
                if name != "first":
                    self.assertEqual(made.making(name), self.family.making(name))
        self.assertEqual(restricted(self.family, ["c", "e"]), self.family)

    def test_unknown(self):
        self.assertEqual(self.raises(UnknownCopy, lambda: restricted(self.family, ["c", "y", "x"])), ["y"])
        self.assertEqual(self.raises(UnknownCopy, lambda: restricted(Family("ab"), [""])), [""])

    def test_arguments_stay(self):
        names = ["e", "a"]
        restricted(self.family, names)
        self.assertEqual(names, ["e", "a"])
        self.assertEqual(len(self.family), 6)


class ContractedTest(FamilyCase):
    def test_chain(self):
        family = Family("ab").copied("x", "first", MISTAKE).copied("v", "first", FAITHFUL).copied("y", "x", OMIT)
        family = family.joined("z", "v", "y").found("y", exactly("ab", ["a"])).found("v", torn("ab", "*b"))
        made = contracted(family, "x")
        self.assertEqual(made.names, ("first", "v", "y", "z"))
        self.assertEqual(made.making("y")[:2], ("copied", "first"))
        self.assertEqual(made.making("y")[2].rules, (MISTAKE >> OMIT).rules)
        self.assertEqual(made.making("v"), ("copied", "first", FAITHFUL))
        self.assertEqual(made.making("z"), family.making("z"))
        self.assertEqual([made.kept(name) for name in made], [None, torn("ab", "*b"), exactly("ab", ["a"]), None])
        self.assertEqual(len(family), 5)

    def test_exemplar_of_the_lost_copy(self):
        family = Family("ab").copied("w", "first", FAITHFUL).copied("x", "w", OMIT).copied("y", "x", MISTAKE)
        made = contracted(family, "x")
        self.assertEqual(made.making("y")[1], "w")
        self.assertEqual(made.making("y")[2], OMIT >> MISTAKE)
        self.assertEqual(contracted(made, "w").making("y"), ("copied", "first", OMIT >> MISTAKE))

    def test_first_text_may_be_kept(self):
        family = Family("ab").copied("x", "first", FAITHFUL).copied("y", "x", OMIT).found("first", torn("ab", "a*"))
        self.assertEqual(contracted(family, "x").kept("first"), torn("ab", "a*"))

    def test_unknown(self):
        family = Family("ab").copied("x", "first", FAITHFUL)
        for name in ("first", "y", ""):
            self.assertEqual(self.raises(UnknownCopy, lambda: contracted(family, name)), [name])

    def test_cannot_contract(self):
        start = Family("ab").copied("x", "first", FAITHFUL)
        met = Family("ab").joined("x", "first", "first").copied("y", "x", OMIT)
        cases = [
            start, start.copied("y", "x", OMIT).copied("z", "x", OMIT), start.joined("y", "x", "first"),
            start.corrected("y", "x", "x"), start.copied("y", "x", OMIT).conflated("z", "y", "x"),
            start.copied("y", "x", OMIT).found("x", everything("ab")), met,
        ]
        for family in cases:
            self.assertEqual(self.raises(CannotContract, lambda: contracted(family, "x")), ["x"])
        self.assertEqual(contracted(start.copied("y", "x", OMIT).found("x", everything("ab")).lost("x"), "x").names, ("first", "y"))

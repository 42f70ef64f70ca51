from firsthand.errors import AlphabetsDiffer, BadName, NotKept, NothingToUndo, StillUsed, TakenName, UnknownCopy
from firsthand.families import Family
from firsthand.hands import Hand
from firsthand.ledgers import Ledger, Supposing, Trial, perform, within
from firsthand.setmaking import everything, exactly, nothing, torn
from tests.brute import lists_of, only_tuples
from tests.test_families import FAITHFUL, FamilyCase

A = torn("ab", "a*")
B = torn("ab", "*b")
X = ("copied", "x", "first", FAITHFUL)
Y = ("copied", "y", "x", FAITHFUL)


class Stop(Exception):
    pass


class LedgerTest(FamilyCase):
    def test_beginning(self):
        family = Family("ab").copied("x", "first", FAITHFUL)
        ledger = Ledger(family)
        self.assertEqual((ledger.deeds, len(ledger)), ((), 0))
        self.assertEqual((ledger.began, ledger.known, ledger.family), (family, family, family))

    def test_all_deeds(self):
        ledger = Ledger(Family("ab"))
        deeds = [
            X, ("joined", "j", "x", "first", None, 1), ("conflated", "c", "x", "j", 0, 99), ("corrected", "k", "j", "x", 9, 0),
            ("found", "x", A), ("found", "x", B), ("found", "j", B), ("lost", "j"), ("without", "c"),
        ]
        for at, deed in enumerate(deeds):
            self.assertIsNone(ledger.enter(list(deed) if at % 2 else deed))
            self.assertEqual((ledger.deeds, len(ledger)), (tuple(deeds[:at + 1]), at + 1))
            if at == 3:
                family_after_four = ledger.known
        family = Family("ab").copied("x", "first", FAITHFUL).joined("j", "x", "first").conflated("c", "x", "j", most=0, cost=99)
        family = family.corrected("k", "j", "x", most=9, cost=0)
        self.assertEqual(family_after_four, family)
        family = family.found("x", A & B).without("c")
        self.assertEqual(ledger.known, family)
        self.assertEqual(ledger.family, family)
        self.assertEqual(ledger.began, Family("ab"))
        self.assertTrue(only_tuples(ledger.deeds))

    def test_refused_deeds(self):
        ledger = Ledger(Family("ab"))
        ledger.enter(X)
        cases = [
            (("copied", "x", "first", FAITHFUL), TakenName, ["x"]), (("joined", "Y", "x", "x", None, 1), BadName, ["Y"]),
            (("conflated", "y", "x", "z", None, 1), UnknownCopy, ["z"]), (("corrected", "y", "z", "w", None, 1), UnknownCopy, ["z"]),
            (("found", "x", everything("abc")), AlphabetsDiffer, ["ab", "abc"]), (("lost", "x"), NotKept, ["x"]),
            (("without", "first"), StillUsed, ["first"]), (("without", "y"), UnknownCopy, ["y"]),
            (("copied", "y", "first", Hand.faithful("a")), AlphabetsDiffer, ["ab", "a"]),
        ]
        for deed, error, fields in cases:
            self.assertEqual(self.raises(error, lambda: ledger.enter(deed)), fields)
            self.assertEqual(ledger.deeds, (X,))
            self.assertEqual(ledger.known, Family("ab").copied("x", "first", FAITHFUL))

    def test_undo(self):
        ledger = Ledger(Family("ab"))
        for deed in (X, ("found", "x", A), ("found", "x", B)):
            ledger.enter(deed)
        self.assertEqual(ledger.undo(), ("found", "x", B))
        self.assertEqual(ledger.known.kept("x"), A)
        self.assertEqual(ledger.undo(), ("found", "x", A))
        self.assertEqual(ledger.undo(), X)
        self.assertEqual((ledger.known, len(ledger)), (Family("ab"), 0))
        self.assertEqual(self.raises(NothingToUndo, ledger.undo), [])

    def test_undo_of_a_removal(self):
        ledger = Ledger(Family("ab"))
        for deed in (X, ("found", "x", A), ("without", "x")):
            ledger.enter(deed)
        ledger.undo()
        self.assertEqual(ledger.known.kept("x"), A)

    def test_deeds_are_copied(self):
        deed = ["found", "first", A]
        ledger = Ledger(Family("ab"))
        ledger.enter(deed)
        deed[1] = "x"
        self.assertEqual(ledger.deeds, (("found", "first", A),))
        earlier = ledger.deeds
        ledger.undo()
        self.assertEqual(earlier, (("found", "first", A),))


class TrialTest(FamilyCase):
    def setUp(self):
        self.ledger = Ledger(Family("ab"))
        self.ledger.enter(X)

    def test_trial(self):
        trial = Trial(self.ledger)
        self.ledger.enter(Y)
        with trial as same:
            self.assertIs(same, self.ledger)
            same.undo()
            same.undo()
            same.enter(("found", "first", A))
            same.enter(("copied", "z", "first", FAITHFUL))
            self.assertEqual(same.known.names, ("first", "z"))
        self.assertEqual(self.ledger.deeds, (X, Y))
        self.assertEqual(self.ledger.known.names, ("first", "x", "y"))
        self.assertIsNone(self.ledger.known.kept("first"))

    def test_trial_that_ends_by_an_error(self):
        with self.assertRaises(Stop):
            with Trial(self.ledger):
                self.ledger.undo()
                raise Stop()
        self.assertEqual(self.ledger.deeds, (X,))
        with self.assertRaises(NothingToUndo):
            with Trial(self.ledger):
                self.ledger.undo()
                self.ledger.undo()
        self.assertEqual(self.ledger.deeds, (X,))

    def test_nested_trials(self):
        with Trial(self.ledger):
            self.ledger.enter(Y)
            with Trial(self.ledger):
                self.ledger.enter(("found", "y", A))
                self.assertEqual(len(self.ledger), 3)
            self.assertEqual(self.ledger.deeds, (X, Y))
        self.assertEqual(self.ledger.deeds, (X,))

    def test_trial_that_is_not_entered(self):
        Trial(self.ledger)
        self.ledger.enter(Y)
        self.assertEqual(len(self.ledger), 2)


class SupposingTest(FamilyCase):
    def setUp(self):
        self.ledger = Ledger(Family("ab"))
        self.ledger.enter(X)

    def test_supposing(self):
        block = Supposing(self.ledger, "x", A)
        self.assertIsNone(self.ledger.family.kept("x"))
        with block as same:
            self.assertIs(same, self.ledger)
            self.assertEqual(same.family.kept("x"), A)
            self.assertIsNone(same.known.kept("x"))
            same.enter(("found", "x", B))
            self.assertEqual(same.family.kept("x"), A & B)
            self.assertEqual(same.known.kept("x"), B)
            self.assertEqual(same.deeds, (X, ("found", "x", B)))
        self.assertEqual(self.ledger.family.kept("x"), B)
        self.assertEqual(len(self.ledger), 2)

    def test_end_by_an_error(self):
        with self.assertRaises(Stop):
            with Supposing(self.ledger, "x", A):
                self.ledger.enter(Y)
                raise Stop()
        self.assertIsNone(self.ledger.family.kept("x"))
        self.assertEqual(len(self.ledger), 2)
        self.ledger.undo()
        self.ledger.undo()

    def test_several_suppositions(self):
        with Supposing(self.ledger, "x", A), Supposing(self.ledger, "first", nothing("ab")):
            with Supposing(self.ledger, "x", B):
                self.assertEqual(self.ledger.family.kept("x"), A & B)
                self.assertTrue(self.ledger.family.kept("first").is_empty)
            self.assertEqual(self.ledger.family.kept("x"), A)
        self.assertEqual(self.ledger.family, self.ledger.known)

    def test_errors_of_entering(self):
        for name, texts, error, fields in (
            ("z", everything("abc"), UnknownCopy, ["z"]), ("x", everything("abc"), AlphabetsDiffer, ["ab", "abc"]),
        ):
            def act():
                with Supposing(self.ledger, name, texts):
                    raise Stop()
            self.assertEqual(self.raises(error, act), fields)
            self.assertEqual(self.ledger.family, self.ledger.known)
        self.ledger.undo()

    def test_deeds_that_a_supposition_forbids(self):
        self.ledger.enter(Y)
        with Supposing(self.ledger, "y", A):
            self.assertEqual(self.raises(StillUsed, lambda: self.ledger.enter(("without", "y"))), ["y"])
            self.assertEqual(self.raises(StillUsed, self.ledger.undo), ["y"])
            self.assertEqual(self.ledger.deeds, (X, Y))
            self.ledger.enter(("found", "y", B))
            self.ledger.undo()
            self.ledger.enter(("copied", "z", "y", FAITHFUL))
            self.assertEqual(self.raises(StillUsed, lambda: self.ledger.enter(("without", "y"))), ["y"])
            self.ledger.undo()
        self.assertEqual(self.ledger.undo(), Y)
        self.ledger.enter(Y)
        self.ledger.enter(("without", "y"))

    def test_all_makings_are_guarded(self):
        makings = [
            ("copied", "z", "first", FAITHFUL), ("joined", "z", "first", "first", None, 1),
            ("conflated", "z", "first", "first", None, 1), ("corrected", "z", "first", "first", None, 1),
        ]
        for deed in makings:
            self.ledger.enter(deed)
            with Supposing(self.ledger, "z", A):
                self.assertEqual(self.raises(StillUsed, self.ledger.undo), ["z"])
            self.assertEqual(self.ledger.undo(), deed)

    def test_method_error_comes_before_the_supposition(self):
        with Supposing(self.ledger, "first", A):
            self.assertEqual(self.raises(StillUsed, lambda: self.ledger.enter(("without", "first"))), ["first"])
            self.assertEqual(self.raises(UnknownCopy, lambda: self.ledger.enter(("without", "w"))), ["w"])

    def test_supposition_of_another_copy_forbids_nothing(self):
        self.ledger.enter(Y)
        with Supposing(self.ledger, "x", A):
            self.assertEqual(self.ledger.undo(), Y)

    def test_two_suppositions_about_one_copy(self):
        self.ledger.enter(Y)
        with Supposing(self.ledger, "y", A):
            with Supposing(self.ledger, "y", B):
                pass
            self.assertEqual(self.raises(StillUsed, self.ledger.undo), ["y"])

    def test_trial_within_a_supposition(self):
        with Supposing(self.ledger, "x", A):
            with Trial(self.ledger):
                self.ledger.enter(("found", "x", B))
                self.assertEqual(self.ledger.family.kept("x"), A & B)
            self.assertEqual(self.ledger.family.kept("x"), A)
            self.assertEqual(self.ledger.deeds, (X,))

    def test_supposition_within_a_trial(self):
        with Trial(self.ledger):
            self.ledger.enter(Y)
            with Supposing(self.ledger, "y", A):
                self.ledger.enter(("found", "y", B))
                self.assertEqual(self.ledger.family.kept("y"), A & B)
            self.assertEqual(len(self.ledger), 3)
        self.assertEqual(self.ledger.deeds, (X,))
        self.assertEqual(self.ledger.family, self.ledger.known)


class PerformTest(FamilyCase):
    def setUp(self):
        self.ledger = Ledger(Family("ab"))

    def test_steps(self):
        steps = (
            ("enter", X), ("see",), ("undo",), ("see",), ("enter", X),
            ("trial", (("enter", Y), ("see",), ("supposing", "y", A, (("see",), ("enter", ("found", "y", B)), ("see",))), ("see",))),
            ("see",),
        )
        for passed in (steps, lists_of(steps)):
            ledger = Ledger(Family("ab"))
            seen = perform(ledger, passed)
            start = Family("ab")
            one = start.copied("x", "first", FAITHFUL)
            two = one.copied("y", "x", FAITHFUL)
            find = ("found", "y", B)
            self.assertEqual(seen, (
                ((X,), one), ((), start), ((X, Y), two), ((X, Y), two.found("y", A)),
                ((X, Y, find), two.found("y", A & B)), ((X, Y, find), two.found("y", B)), ((X,), one),
            ))
            self.assertEqual(ledger.deeds, (X,))
            self.assertTrue(only_tuples(seen))

    def test_no_steps(self):
        self.assertEqual(perform(self.ledger, ()), ())
        self.assertEqual(perform(self.ledger, [("trial", []), ("supposing", "first", A, [])]), ())

    def test_arguments_stay(self):
        steps = lists_of((("enter", X), ("trial", (("enter", Y),))))
        before = lists_of(steps)
        perform(self.ledger, steps)
        self.assertEqual(steps, before)

    def test_error_in_a_step(self):
        steps = [("enter", X), ("enter", X), ("enter", Y)]
        self.assertEqual(self.raises(TakenName, lambda: perform(self.ledger, steps)), ["x"])
        self.assertEqual(self.ledger.deeds, (X,))

    def test_error_in_a_trial(self):
        steps = [("enter", X), ("trial", [("enter", Y), ("trial", [("undo",), ("undo",), ("undo",)])]), ("see",)]
        self.assertEqual(self.raises(NothingToUndo, lambda: perform(self.ledger, steps)), [])
        self.assertEqual(self.ledger.deeds, (X,))

    def test_error_in_a_supposition(self):
        steps = [("supposing", "first", A, [("enter", X), ("supposing", "x", B, [("undo",)])])]
        self.assertEqual(self.raises(StillUsed, lambda: perform(self.ledger, steps)), ["x"])
        self.assertEqual(self.ledger.deeds, (X,))
        self.assertEqual(self.ledger.family, self.ledger.known)
        self.assertEqual(self.ledger.undo(), X)

    def test_error_of_entering(self):
        steps = [("enter", X), ("supposing", "y", A, [("undo",)])]
        self.assertEqual(self.raises(UnknownCopy, lambda: perform(self.ledger, steps)), ["y"])
        self.assertEqual(self.ledger.deeds, (X,))

    def test_within(self):
        self.ledger.enter(X)
        seen = within(Trial(self.ledger), [("undo",), ("see",)])
        self.assertEqual(seen, (((), Family("ab")),))
        self.assertEqual(self.ledger.deeds, (X,))
        seen = within(Supposing(self.ledger, "x", A), (("see",), ("enter", Y)))
        self.assertEqual(seen, (((X,), Family("ab").copied("x", "first", FAITHFUL).found("x", A)),))
        self.assertEqual(self.ledger.deeds, (X, Y))
        self.assertEqual(self.ledger.family, self.ledger.known)

    def test_within_with_errors(self):
        self.ledger.enter(X)
        self.assertEqual(self.raises(UnknownCopy, lambda: within(Supposing(self.ledger, "z", A), [("undo",)])), ["z"])
        self.assertEqual(self.raises(NothingToUndo, lambda: within(Trial(self.ledger), [("undo",), ("undo",)])), [])
        self.assertEqual(self.ledger.deeds, (X,))
        block = Supposing(self.ledger, "first", exactly("ab", ["a"]))
        self.assertEqual(self.raises(NothingToUndo, lambda: within(block, [("undo",), ("undo",)])), [])
        self.assertEqual((self.ledger.deeds, self.ledger.family), ((), Family("ab")))

    def test_five_blocks_deep(self):
        steps = [("see",)]
        for _ in range(5):
            steps = [("trial", steps), ("see",)]
        self.assertEqual(len(perform(self.ledger, steps)), 6)

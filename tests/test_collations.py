"""Points 88 and 89."""

import random
import unittest

from firsthand.claims import Claim
from firsthand.collations import collation_of, history_showing, told_blocks
from firsthand.errors import AlphabetsDiffer, BadHistory, UnknownCopy
from firsthand.families import Family
from firsthand.hands import Hand
from firsthand.letters import row_order
from firsthand.setmaking import everything, exactly, nothing
from firsthand.walks import least_history
from tests.brute import lists_of, only_tuples
from tests.worlds import as_history, looked_at, random_worlds, text_key

HAND = Hand.of_faults("ab", [("omit", "b", 1), ("double", "a", 2)])
FAMILY = Family("ab").copied("x", "first", HAND).joined("j", "x", "first", most=1).found("x", exactly("ab", ["aa"]))
HISTORY = ("ab", (((("aa", 2),), 1), ((("", 1),), 0)))


def collation_in(was, names):
    return tuple(tuple(was["blocks"][name][place] for name in names) for place in range(len(was["first"])))


class CollationOfTest(unittest.TestCase):
    def test_columns(self):
        self.assertEqual(collation_of(FAMILY, HISTORY, ["x", "first"]), (("aa", "a"), ("", "b")))
        self.assertEqual(collation_of(FAMILY, lists_of(HISTORY), ("j",)), (("a",), ("",)))
        self.assertEqual(collation_of(FAMILY, HISTORY, []), ((), ()))
        self.assertTrue(only_tuples(collation_of(FAMILY, HISTORY, ["x", "j"])))
        free = FAMILY.lost("x")
        for names in ([], ["x", "first"]):
            self.assertEqual(collation_of(free, ["", []], names), ())

    def test_errors(self):
        broken = ("a", ((),))
        for history in (HISTORY, broken[:1] + ((),)):
            with self.assertRaises(UnknownCopy) as caught:
                collation_of(FAMILY, history, ["x", "q", "r"])
            self.assertEqual(caught.exception.name, "q")
        with self.assertRaises(BadHistory) as caught:
            collation_of(FAMILY, ("ab", HISTORY[1][:1]), ["x"])
        self.assertEqual((caught.exception.place, caught.exception.name), (1, "first"))
        with self.assertRaises(BadHistory) as caught:
            collation_of(FAMILY, ("a", (((("a", 0),), 1),)), [])
        self.assertEqual((caught.exception.place, caught.exception.name), (1, "x"))

    def test_order(self):
        """Columns of equally many blocks are in the order of texts, block by block."""
        rows = [("b", "aa"), ("", "b"), ("a", "bb"), ("aa", ""), ("a", "c")]
        self.assertEqual(sorted(rows, key=row_order), [("", "b"), ("a", "c"), ("a", "bb"), ("b", "aa"), ("aa", "")])


class ShowingTest(unittest.TestCase):
    def test_history_showing(self):
        self.assertEqual(history_showing(FAMILY, ["x", "first"], [["aa", "a"], ["", "b"]]), ("ab", (((("aa", 2),), 0), ((("", 1),), 0))))
        self.assertEqual(history_showing(FAMILY, ["j"], [["a"], ["b"]]), ("ab", (((("aa", 2),), 1), ((("", 1),), 1))))
        self.assertEqual(history_showing(FAMILY, [], [[], []])[0], "aa")
        self.assertTrue(only_tuples(history_showing(FAMILY, ["x"], [["aa"]])))

    def test_none(self):
        for collation in ([["b"]], [["a"]], [], [["a"]] * 3, [["c"], ["zz"]], [["aa"]] * 12):
            self.assertIsNone(history_showing(FAMILY, ["x"], collation), collation)
            self.assertIsNone(told_blocks(FAMILY, ["x"], collation), collation)
        self.assertIsNotNone(history_showing(FAMILY, ["x"], [["aa"]] + [[""]] * 11))
        self.assertIsNone(history_showing(FAMILY.found("first", nothing("ab")), [], []))

    def test_no_columns(self):
        family = Family("ab").copied("x", "first", HAND)
        for names in ([], ["x"]):
            self.assertEqual(history_showing(family, names, []), ("", ()))
            self.assertEqual(told_blocks(family, names, ()), ())

    def test_told_blocks(self):
        self.assertEqual(told_blocks(FAMILY, ["x"], [["aa"], [""]]), (("a",), ("b",)))
        self.assertEqual(told_blocks(FAMILY, ["x"], [["aa"], [""]], told="j"), (("a", "aa"), ("", "b")))
        self.assertEqual(told_blocks(FAMILY, ["first"], [["a"], ["a"]], told="x"), (("a",), ("a",)))
        self.assertEqual(told_blocks(FAMILY, [], [[], []], told="x"), (("", "a", "aa"), ("", "a", "aa")))
        self.assertEqual(told_blocks(FAMILY, [], [[], []], told="x", supposed=Claim.costs(0)), (("a",), ("a",)))
        self.assertTrue(only_tuples(told_blocks(FAMILY, ["x"], [["aa"], [""]], told="j")))

    def test_only_histories_with_the_whole_collation(self):
        """What leads to no history in the end is not told, and neither what has other columns later."""
        hand = Hand("ab", [(0, "a", "a", 0, 1), (0, "b", "a", 0, 2), (1, "a", "a", 0, 1), (2, "b", "b", 0, 2)], [1, 2])
        family = Family("ab").copied("x", "first", hand)
        self.assertEqual(told_blocks(family, ["x"], [["a"]]), (("a", "b"),))
        self.assertEqual(told_blocks(family, ["x"], [["a"], ["b"]]), (("b",), ("b",)))
        self.assertEqual(told_blocks(family, ["x"], [["a"], ["a"]]), (("a",), ("a",)))
        self.assertEqual(told_blocks(family.found("first", exactly("ab", ["b", "aa"])), ["x"], [["a"]]), (("b",),))

    def test_lists(self):
        given = [["aa"], [""]]
        self.assertEqual(told_blocks(FAMILY, ("x",), (("aa",), ("",)), told="j"), told_blocks(FAMILY, ["x"], given, told="j"))
        self.assertEqual(history_showing(FAMILY, ("x",), (("aa",), ("",))), history_showing(FAMILY, ["x"], given))
        self.assertEqual(given, [["aa"], [""]])

    def test_errors(self):
        strange = Claim.slips("q", 1)
        wide = Claim.lies("x", everything("abc"))
        for family in (FAMILY, FAMILY.found("first", nothing("ab"))):
            asks = [lambda names, supposed: history_showing(family, names, [], supposed=supposed),
                    lambda names, supposed: told_blocks(family, names, [], supposed=supposed)]
            for ask in asks:
                for names, supposed, name in ((["x", "r", "s"], wide, "r"), (["x"], strange & wide, "q"), (["", "r"], None, "")):
                    with self.assertRaises(UnknownCopy) as caught:
                        ask(names, supposed)
                    self.assertEqual(caught.exception.name, name)
                self.assertRaises(AlphabetsDiffer, lambda: ask(["x"], wide & strange))
            for names, supposed, name in ((["x", "r"], wide, "r"), (["x"], wide, "t")):
                with self.assertRaises(UnknownCopy) as caught:
                    told_blocks(family, names, [], told="t", supposed=supposed)
                self.assertEqual(caught.exception.name, name)

    def test_words_of_the_document(self):
        rand = random.Random(88)
        sizes = set()
        for family, _, supposed in random_worlds(88, 120, most=1500):
            found = looked_at(family, 3, supposed)
            for _ in range(3):
                names = rand.sample(family.names, rand.randint(0, len(family.names)))
                told = rand.choice(family.names)
                by_collation = {}
                for was in found:
                    by_collation.setdefault(collation_in(was, names), []).append(was)
                for collation, several in list(by_collation.items())[:6]:
                    self.assertEqual(collation_of(family, as_history(several[0]), names), collation)
                    self.assertEqual(history_showing(family, names, collation, supposed=supposed), as_history(several[0]))
                    blocks = [sorted({was["blocks"][told][place] for was in several}, key=text_key) for place in range(len(collation))]
                    self.assertEqual(told_blocks(family, names, collation, told=told, supposed=supposed), tuple(map(tuple, blocks)))
                    sizes.add(max([0, *map(len, blocks)]))
                    other = collation[:-1] + (tuple("ba" for _ in names),)
                    if collation and other not in by_collation:
                        self.assertIsNone(history_showing(family, names, other, supposed=supposed))
        self.assertGreater(len(sizes), 3)

    def test_least_history_of_all(self):
        for family, _, supposed in random_worlds(89, 40, places=2, most=400):
            least = least_history(family, supposed=supposed)
            if least is not None and len(least[0]) <= 12:
                collation = collation_of(family, least, family.names)
                self.assertEqual(history_showing(family, family.names, collation, supposed=supposed), least)


if __name__ == "__main__":
    unittest.main()

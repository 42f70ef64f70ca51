"""Point 53."""

import random
import unittest

from firsthand.errors import BadHistory, UnknownCopy
from firsthand.families import Family
from firsthand.hands import Hand
from firsthand.histories import blocks, is_let
from firsthand.pruning import restricted
from firsthand.setmaking import exactly
from firsthand.shortening import shortened
from tests.brute import lists_of, only_tuples
from tests.worlds import as_history, looked_at, random_worlds

HAND = Hand.of_faults("ab", [("omit", "b", 1)])
FAMILY = Family("ab").copied("x", "first", HAND).copied("y", "first", HAND).joined("j", "x", "x").copied("z", "j", HAND)
HISTORY = ("ab", (((("a", 0),), (("a", 0),), 1, (("a", 0),)), ((("b", 0),), (("", 1),), 0, (("", 1),))))


class ShortenedTest(unittest.TestCase):
    def test_copies_that_stay(self):
        for passed in (HISTORY, lists_of(HISTORY)):
            self.assertEqual(shortened(FAMILY, passed, ["j"]), ("ab", (((("a", 0),), 1), ((("b", 0),), 0))))
            self.assertEqual(shortened(FAMILY, passed, ("y",)), ("ab", (((("a", 0),),), ((("", 1),),))))
            self.assertEqual(shortened(FAMILY, passed, []), ("ab", ((), ())))
            self.assertEqual(shortened(FAMILY, passed, ["first"]), ("ab", ((), ())))
            self.assertEqual(shortened(FAMILY, passed, ["z", "y", "z"]), HISTORY)
            self.assertTrue(only_tuples(shortened(FAMILY, passed, ["j"])))
        self.assertEqual(shortened(FAMILY, ("", []), ["j"]), ("", ()))

    def test_errors_and_their_order(self):
        bad = ("a", (((("b", 0),), (("a", 0),), 0, (("a", 0),)),))
        for history in (HISTORY, bad):
            with self.assertRaises(UnknownCopy) as caught:
                shortened(FAMILY, history, ["x", "q", "r"])
            self.assertEqual(caught.exception.name, "q")
        with self.assertRaises(BadHistory) as caught:
            shortened(FAMILY, bad, ["y"])
        self.assertEqual((caught.exception.place, caught.exception.name), (0, "x"))
        # A history that cannot end is refused as well, also for what is left out.
        with self.assertRaises(BadHistory) as caught:
            shortened(FAMILY.found("z", exactly("ab", ["ab"])), HISTORY, ["x"])
        self.assertEqual((caught.exception.place, caught.exception.name), (2, "z"))

    def test_restricted_family_lets_it(self):
        rand = random.Random(53)
        count = 0
        for family, _, _ in random_worlds(530, 80):
            for was in looked_at(family, 2)[:6]:
                names = rand.sample(family.names, rand.randint(0, len(family)))
                small = restricted(family, names)
                short = shortened(family, as_history(was), names)
                self.assertIs(is_let(small, short), True)
                self.assertEqual(blocks(small, short), tuple(was["blocks"][name] for name in small.names))
                count += 1
        self.assertGreater(count, 60)


if __name__ == "__main__":
    unittest.main()

"""Point 94."""

import itertools
import random
import unittest

from firsthand.claims import Claim
from firsthand.errors import AlphabetsDiffer, UnknownCopy
from firsthand.families import Family
from firsthand.hands import Hand
from firsthand.keeping import fewest_telling, indispensable
from firsthand.setmaking import everything, exactly, nothing
from firsthand.tellings import telling
from tests.worlds import random_worlds

FAITHFUL = Hand.faithful("abc")


def changing(letter):
    """A hand that may write "a" for one letter."""
    return Hand("abc", [(0, sign, sign, 0, 0) for sign in "abc"] + [(0, letter, "a", 1, 0)], [0])


# x and y are each sometimes wrong, but together they tell the first text; z tells it alone, v tells nothing.
ABC = Family("abc").copied("x", "first", changing("b")).copied("y", "first", changing("c")).copied("z", "first", FAITHFUL)
ABC = ABC.copied("v", "first", Hand("abc", [(0, sign, "", 0, 0) for sign in "abc"], [0]))


class FewestTest(unittest.TestCase):
    def test_fewest(self):
        self.assertEqual(fewest_telling(ABC, ["v", "x", "y", "z"]), ("z",))
        self.assertEqual(fewest_telling(ABC, ["v", "x", "y"]), ("x", "y"))
        self.assertEqual(fewest_telling(ABC, ["y", "x", "v"]), ("y", "x"))
        self.assertEqual(fewest_telling(ABC, ["y", "first", "z"]), ("first",))
        self.assertEqual(fewest_telling(ABC, ["z", "first"]), ("z",))

    def test_none(self):
        for names in ([], ["v"], ["x"], ["y", "v"]):
            self.assertIsNone(fewest_telling(ABC, names))

    def test_no_names_are_enough(self):
        self.assertEqual(fewest_telling(ABC, ["x", "z"], told="v"), ())
        self.assertEqual(fewest_telling(ABC, [], told="v"), ())
        self.assertEqual(fewest_telling(ABC.found("first", exactly("abc", ["abc", "a"])), ["x"]), ())
        self.assertEqual(fewest_telling(ABC.found("x", nothing("abc")), ["x"]), ())

    def test_supposed(self):
        self.assertEqual(fewest_telling(ABC, ["x", "y"], supposed=Claim.slips("y", 0)), ("y",))
        self.assertEqual(fewest_telling(ABC, ["x"], supposed=~Claim.slips("x", 0)), None)


class IndispensableTest(unittest.TestCase):
    def test_names(self):
        self.assertEqual(indispensable(ABC, ["v", "x", "y", "z"]), ())
        self.assertEqual(indispensable(ABC, ["v", "x", "y"]), ("x", "y"))
        self.assertEqual(indispensable(ABC, ["y", "v", "x"]), ("y", "x"))
        self.assertEqual(indispensable(ABC, ["z", "v"]), ("z",))
        self.assertEqual(indispensable(ABC, ["z"]), ("z",))

    def test_all_names_if_they_do_not_tell(self):
        for names in ([], ["v"], ["x", "v"]):
            self.assertEqual(indispensable(ABC, names), tuple(names))

    def test_none_if_no_names_are_enough(self):
        self.assertEqual(indispensable(ABC, ["x", "z"], told="v"), ())
        self.assertEqual(indispensable(ABC, [], told="v"), ())

    def test_supposed(self):
        self.assertEqual(indispensable(ABC, ["x", "y"], supposed=Claim.slips("y", 0)), ("y",))


class BothTest(unittest.TestCase):
    def test_words_of_the_document(self):
        rand = random.Random(94)
        sizes = set()
        for family, _, supposed in random_worlds(94, 120, copies=4, kept=0.2, places=2, most=600, atoms=1):
            told = rand.choice(family.names)
            names = rand.sample([name for name in family.names if name != told], min(3, len(family.names) - 1))
            right = [choice for size in range(len(names) + 1) for choice in itertools.combinations(names, size)
                     if telling(family, choice, told=told, supposed=supposed).always]
            found = fewest_telling(family, names, told=told, supposed=supposed)
            self.assertEqual(found, right[0] if right else None)
            needed = tuple(name for name in names if tuple(other for other in names if other != name) not in right)
            self.assertEqual(indispensable(family, names, told=told, supposed=supposed), needed)
            sizes.add((-1 if found is None else len(found), len(needed)))
        self.assertGreater(len(sizes), 4, sizes)

    def test_errors(self):
        strange, wide = Claim.slips("q", 1), Claim.lies("x", everything("ab"))
        for family in (ABC, ABC.found("x", nothing("abc"))):
            for ask in (fewest_telling, indispensable):
                given = [(["x", "r", "s"], "t", wide, "r"), (["x"], "t", wide, "t"), (["x"], "first", strange & wide, "q")]
                for names, told, supposed, name in given:
                    with self.assertRaises(UnknownCopy) as caught:
                        ask(family, names, told=told, supposed=supposed)
                    self.assertEqual(caught.exception.name, name)
                self.assertRaises(AlphabetsDiffer, lambda: ask(family, ["x"], told="y", supposed=wide & strange))


if __name__ == "__main__":
    unittest.main()

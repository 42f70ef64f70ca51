"""Points 81 to 83."""

import inspect
import itertools
import random
import unittest

from firsthand.catalogues import Catalogue
from firsthand.errors import BadStem
from firsthand.families import Family
from firsthand.hands import Hand
from firsthand.setmaking import everything, exactly, nothing, torn
from firsthand.stems import explaining, is_stem, stem_family, stems
from firsthand.walks import least_history
from tests.brute import lists_of, only_tuples

FAITHFUL = Hand.faithful("ab")
HAND = Hand.of_faults("ab", [("omit", "b", 1), ("double", "a", 2)])
# x was made from q or from the first text, q from p or from the first text.
ENTRIES = [
    ("p", [("copied", "first", HAND)]), ("q", [("copied", "p", HAND), ("copied", "first", FAITHFUL)]),
    ("x", [("copied", "q", HAND), ("copied", "first", FAITHFUL)]), ("y", [("joined", "q", "p", None, 1)]),
]
CHAIN = Catalogue("ab", ENTRIES, [("x", exactly("ab", ["aa"]))])


def exemplars_of(making):
    return making[1:2] if making[0] == "copied" else making[1:3]


def all_stems(catalogue):
    """Every choice of copies and ways that point 81 lets, in the order of point 82."""
    found = []
    for chosen in itertools.product(*[[None, *range(len(ways))] for _, ways in catalogue.entries]):
        standing = {name: ways[index] for (name, ways), index in zip(catalogue.entries, chosen) if index is not None}
        used = {exemplar for making in standing.values() for exemplar in exemplars_of(making)}
        fits = set(catalogue.found_copies) <= set(standing) and used <= {"first", *standing}
        if fits and all(name in used for name in standing if name in catalogue.lost_copies):
            stem = tuple((name, index) for (name, _), index in zip(catalogue.entries, chosen) if index is not None)
            found.append(([-1 if index is None else index for index in reversed(chosen)], stem))
    return [stem for _, stem in sorted(found)]


def random_catalogue(rand, most=5):
    names = ["p", "q", "r", "x", "y"][:rand.randint(0, most)]
    entries = []
    for at, name in enumerate(names):
        ways = []
        for _ in range(rand.randint(1, 3)):
            known = ["first", *names[:at]]
            if rand.random() < 0.6:
                ways.append(("copied", rand.choice(known), rand.choice([FAITHFUL, HAND])))
            else:
                ways.append((rand.choice(["joined", "corrected"]), rand.choice(known), rand.choice(known), rand.choice([None, 0, 1]), 1))
        entries.append((name, ways))
    texts = [torn("ab", "a*"), torn("ab", "?b*"), exactly("ab", ["a", "aa", "b"]), everything("ab")]
    finds = [(name, rand.choice(texts)) for name in ["first", *names] for _ in range(rand.choice([0, 0, 1, 2]))]
    return Catalogue("ab", entries, finds)


class StemsTest(unittest.TestCase):
    def test_order(self):
        expected = [(("p", 0), ("q", 0), ("x", 0)), (("q", 1), ("x", 0)), (("x", 1),)]
        self.assertEqual(list(stems(CHAIN)), expected)
        self.assertTrue(only_tuples(tuple(stems(CHAIN))))
        self.assertTrue(inspect.isgeneratorfunction(stems))

    def test_lost_copies_stand_only_if_they_are_used(self):
        both = CHAIN.with_find("y", everything("ab"))
        self.assertEqual(list(stems(both)), [
            (("p", 0), ("q", 0), ("x", 0), ("y", 0)), (("p", 0), ("q", 1), ("x", 0), ("y", 0)),
            (("p", 0), ("q", 0), ("x", 1), ("y", 0)), (("p", 0), ("q", 1), ("x", 1), ("y", 0)),
        ])

    def test_no_found_copy(self):
        for finds in ([], [("first", torn("ab", "a*"))]):
            self.assertEqual(list(stems(Catalogue("ab", ENTRIES, finds))), [()])
        self.assertEqual(list(stems(Catalogue("ab", [], []))), [()])

    def test_two_equal_ways(self):
        entries = [("p", [("copied", "first", HAND)] * 2), ("x", [("copied", "p", HAND), ("copied", "first", HAND)])]
        catalogue = Catalogue("ab", entries, [("x", everything("ab"))])
        self.assertEqual(list(stems(catalogue)), [(("p", 0), ("x", 0)), (("p", 1), ("x", 0)), (("x", 1),)])

    def test_words_of_the_document(self):
        rand = random.Random(81)
        many = 0
        for _ in range(120):
            catalogue = random_catalogue(rand)
            expected = all_stems(catalogue)
            self.assertEqual(list(stems(catalogue)), expected)
            many += len(expected) > 4
        self.assertGreater(many, 20)

    def test_lazily(self):
        way = ("copied", "first", FAITHFUL)
        entries = [(f"c{at}", [way] * 4) for at in range(8)]
        catalogue = Catalogue("ab", entries, [(name, everything("ab")) for name, _ in entries])
        found = list(itertools.islice(stems(catalogue), 6))
        self.assertEqual([(stem[0][1], stem[1][1], stem[7][1]) for stem in found], [(0, 0, 0), (1, 0, 0), (2, 0, 0), (3, 0, 0), (0, 1, 0), (1, 1, 0)])


class IsStemTest(unittest.TestCase):
    def test_stems(self):
        for stem in stems(CHAIN):
            self.assertIs(is_stem(CHAIN, stem), True)
            self.assertIs(is_stem(CHAIN, lists_of(stem)), True)

    def test_wrong_sequences(self):
        right = (("p", 0), ("q", 0), ("x", 0))
        wrong = [
            (), right[:2], right[1:], (right[0], right[2]), right[::-1], right + right[2:], right[:1] + right,
            right[:2] + (("x", 2),), right[:2] + (("x", -1),), right[:2] + (("x", 10 ** 9),), (("p", 1), *right[1:]),
            right + (("y", 0),), right + (("z", 0),), (("first", 0), *right), (*right[:2], ("", 0)), right[:2] + (("x", 1),),
            (("p", 0), ("q", 1), ("x", 0)), (("q", 0), ("x", 1)), (("x", 0),), (("x", 1), ("x", 1)), (("x", 0), ("x", 1)),
        ]
        for stem in wrong:
            self.assertIs(is_stem(CHAIN, stem), False, stem)
            self.assertIs(is_stem(CHAIN, lists_of(stem)), False, stem)
            with self.assertRaises(BadStem):
                stem_family(CHAIN, stem)
        self.assertIs(is_stem(Catalogue("ab", ENTRIES, []), ()), True)
        self.assertIs(is_stem(Catalogue("ab", ENTRIES, []), (("p", 0),)), False)

    def test_words_of_the_document(self):
        rand = random.Random(82)
        for _ in range(40):
            catalogue = random_catalogue(rand, most=4)
            right = set(all_stems(catalogue))
            options = [[None, *range(-1, len(ways) + 1)] for _, ways in catalogue.entries]
            for chosen in itertools.product(*options):
                stem = tuple((name, index) for (name, _), index in zip(catalogue.entries, chosen) if index is not None)
                self.assertIs(is_stem(catalogue, stem), stem in right)


class FamilyTest(unittest.TestCase):
    def test_family(self):
        family = stem_family(CHAIN, [["p", 0], ["q", 0], ["x", 0]])
        expected = Family("ab").copied("p", "first", HAND).copied("q", "p", HAND).copied("x", "q", HAND)
        self.assertEqual(family, expected.found("x", exactly("ab", ["aa"])))
        expected = Family("ab").copied("x", "first", FAITHFUL).found("x", exactly("ab", ["aa"]))
        self.assertEqual(stem_family(CHAIN, (("x", 1),)), expected)

    def test_meetings_and_all_finds(self):
        entries = [("p", [("joined", "first", "first", 2, 5)]), ("x", [("conflated", "p", "first", None, 0), ("corrected", "p", "p", 0, 7)])]
        one, two = torn("ab", "a*"), torn("ab", "*b")
        catalogue = Catalogue("ab", entries, [("x", one), ("first", one), ("x", two)])
        start = Family("ab").joined("p", "first", "first", most=2, cost=5)
        expected = start.conflated("x", "p", "first", cost=0).found("x", one & two).found("first", one)
        self.assertEqual(stem_family(catalogue, (("p", 0), ("x", 0))), expected)
        expected = start.corrected("x", "p", "p", most=0, cost=7).found("x", one & two).found("first", one)
        self.assertEqual(stem_family(catalogue, (("p", 0), ("x", 1))), expected)
        family = stem_family(Catalogue("ab", entries, [("first", two)]), ())
        self.assertEqual(family, Family("ab").found("first", two))


class ExplainingTest(unittest.TestCase):
    def test_in_order(self):
        only = Hand("ab", [(0, "a", "ab", 0, 0)], [0])
        entries = [("p", [("copied", "first", only)]), ("x", [("copied", "p", FAITHFUL), ("copied", "p", only), ("copied", "first", HAND)])]
        catalogue = Catalogue("ab", entries, [("x", torn("ab", "a?"))])
        found = list(explaining(catalogue))
        self.assertEqual([stem for stem, _ in found], [(("p", 0), ("x", 0)), (("x", 2),)])
        for stem, history in found:
            self.assertEqual(history, least_history(stem_family(catalogue, stem)))
        self.assertTrue(only_tuples(tuple(found)))
        self.assertTrue(inspect.isgeneratorfunction(explaining))

    def test_none_and_no_found_copy(self):
        self.assertEqual(list(explaining(CHAIN.with_find("x", nothing("ab")))), [])
        self.assertEqual(list(explaining(Catalogue("ab", ENTRIES, []))), [((), ("", ()))])
        self.assertEqual(list(explaining(Catalogue("ab", ENTRIES, [("first", torn("ab", "b?"))]))), [((), ("ba", ((), ())))])
        self.assertEqual(list(explaining(Catalogue("ab", ENTRIES, [("first", nothing("ab"))]))), [])

    def test_lazily(self):
        way = ("copied", "first", FAITHFUL)
        entries = [(f"c{at}", [way] * 4) for at in range(8)]
        catalogue = Catalogue("ab", entries, [(name, torn("ab", "a?")) for name, _ in entries])
        found = list(itertools.islice(explaining(catalogue), 3))
        self.assertEqual([history[0] for _, history in found], ["aa"] * 3)

    def test_words_of_the_document(self):
        rand = random.Random(83)
        explained, unexplained = 0, 0
        for _ in range(60):
            catalogue = random_catalogue(rand, most=4)
            expected = [(stem, least_history(stem_family(catalogue, stem))) for stem in all_stems(catalogue)]
            found = list(explaining(catalogue))
            self.assertEqual(found, [pair for pair in expected if pair[1] is not None])
            explained += len(found)
            unexplained += len(expected) - len(found)
        self.assertGreater(min(explained, unexplained), 10)


if __name__ == "__main__":
    unittest.main()

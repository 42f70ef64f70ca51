"""Points 86 and 87."""

import collections
import random
import unittest

from firsthand.catalogues import Catalogue
from firsthand.choosing import catalogue_verdict, cheapest_stem, fewest_lost
from firsthand.claims import Claim
from firsthand.errors import AlphabetsDiffer, UnknownCopy
from firsthand.hands import Hand
from firsthand.histories import cost_of
from firsthand.prices import cheapest_history, least_cost
from firsthand.setmaking import everything, exactly, nothing, torn
from firsthand.stems import explaining, stem_family, stems
from firsthand.verdicts import verdict
from firsthand.walks import least_history
from tests.brute import only_tuples
from tests.test_needs import CATALOGUE
from tests.test_stems import CHAIN, ENTRIES, random_catalogue

FAITHFUL = Hand.faithful("ab")
DEAR = Hand("ab", [(0, "a", "a", 5, 0), (0, "a", "b", 1, 0), (0, "b", "b", 0, 0)], [0])
# The first stem has two lost copies and costs nothing, the others have one of them or none and cost more.
CHOICE = Catalogue(
    "ab",
    [
        ("p", [("copied", "first", FAITHFUL)]), ("q", [("copied", "p", FAITHFUL), ("copied", "first", DEAR)]),
        ("x", [("copied", "q", FAITHFUL), ("copied", "p", DEAR), ("copied", "first", DEAR)]),
    ],
    [("x", exactly("ab", ["aa"])), ("first", exactly("ab", ["aa"]))],
)


class FewestLostTest(unittest.TestCase):
    def test_fewest(self):
        stem = (("x", 2),)
        self.assertEqual(fewest_lost(CHOICE), (0, stem, least_history(stem_family(CHOICE, stem))))
        self.assertEqual(fewest_lost(CHAIN)[:2], (0, (("x", 1),)))
        self.assertEqual(fewest_lost(CATALOGUE), (1, *next(explaining(CATALOGUE))))
        self.assertTrue(only_tuples(fewest_lost(CHOICE)))

    def test_of_equally_good_stems_the_first(self):
        entries = [("p", [("copied", "first", DEAR), ("copied", "first", FAITHFUL)]), ("q", [("copied", "first", FAITHFUL)]),
                   ("x", [("copied", "q", DEAR), ("copied", "p", FAITHFUL)])]
        catalogue = Catalogue("ab", entries, [("x", exactly("ab", ["ab"]))])
        self.assertEqual([stem for stem, _ in explaining(catalogue)], [(("q", 0), ("x", 0)), (("p", 0), ("x", 1)), (("p", 1), ("x", 1))])
        self.assertEqual(fewest_lost(catalogue)[:2], (1, (("q", 0), ("x", 0))))

    def test_only_stems_that_explain(self):
        catalogue = CATALOGUE.with_find("q", everything("ab"))
        self.assertEqual(fewest_lost(catalogue)[:2], (1, (("p", 0), ("q", 0), ("x", 0))))
        self.assertIsNone(fewest_lost(CATALOGUE.with_find("x", exactly("ab", ["b"]))))

    def test_no_found_copy(self):
        self.assertEqual(fewest_lost(Catalogue("ab", ENTRIES, [])), (0, (), ("", ())))
        self.assertEqual(cheapest_stem(Catalogue("ab", ENTRIES, [])), (0, (), ("", ())))
        self.assertIsNone(fewest_lost(Catalogue("ab", ENTRIES, [("first", nothing("ab"))])))
        self.assertIsNone(cheapest_stem(Catalogue("ab", ENTRIES, [("first", nothing("ab"))])))

    def test_words_of_the_document(self):
        rand = random.Random(86)
        numbers = collections.Counter()
        for _ in range(80):
            catalogue = random_catalogue(rand, most=4)
            best, cheap = None, None
            for stem, history in explaining(catalogue):
                lost = len([name for name, _ in stem if name in catalogue.lost_copies])
                if best is None or lost < best[0]:
                    best = (lost, stem, history)
                family = stem_family(catalogue, stem)
                if cheap is None or least_cost(family) < cheap[0]:
                    cheap = (least_cost(family), stem, cheapest_history(family))
            self.assertEqual(fewest_lost(catalogue), best)
            self.assertEqual(cheapest_stem(catalogue), cheap)
            numbers[best and best[0], cheap and cheap[0]] += 1
        self.assertGreater(len(numbers), 4, numbers)


class CheapestStemTest(unittest.TestCase):
    def test_cheapest(self):
        stem = (("p", 0), ("q", 0), ("x", 0))
        self.assertEqual(cheapest_stem(CHOICE), (0, stem, cheapest_history(stem_family(CHOICE, stem))))
        # Of all three remaining stems one costs least, and it is the second one of them.
        entries = [("p", [("copied", "first", DEAR)]), ("x", [("copied", "p", DEAR), ("copied", "first", DEAR)])]
        catalogue = Catalogue("ab", entries, [("x", torn("ab", "a?"))])
        cost, stem, history = cheapest_stem(catalogue)
        self.assertEqual((cost, stem, history[0]), (5, (("x", 1),), "ab"))
        self.assertEqual(cost_of(stem_family(catalogue, stem), history), 5)
        self.assertTrue(only_tuples((cost, stem, history)))

    def test_the_least_of_the_cheapest_histories(self):
        """The least history is not the cheapest one."""
        entries = [("x", [("copied", "first", Hand("ab", [(0, "a", "ab", 3, 0), (0, "a", "a", 0, 0), (0, "b", "b", 0, 0)], [0]))])]
        catalogue = Catalogue("ab", entries, [("x", exactly("ab", ["ab"]))])
        cost, stem, history = cheapest_stem(catalogue)
        self.assertEqual((cost, history[0]), (0, "ab"))
        self.assertEqual(least_history(stem_family(catalogue, stem))[0], "a")

    def test_of_equally_good_stems_the_first(self):
        for finds in ([("x", exactly("ab", ["aa"]))], [("x", exactly("ab", ["bb"]))]):
            entries = [("p", [("copied", "first", FAITHFUL)] * 2), ("x", [("copied", "p", FAITHFUL), ("copied", "first", FAITHFUL)])]
            self.assertEqual(cheapest_stem(Catalogue("ab", entries, finds))[:2], (0, (("p", 0), ("x", 0))))
            entries = [("p", [("copied", "first", DEAR)] * 2), ("x", [("copied", "p", DEAR)])]
            cost, stem, _ = cheapest_stem(Catalogue("ab", entries, [("first", exactly("ab", ["a"]))] + finds[:0] + [("x", everything("ab"))]))
            self.assertEqual((cost, stem), (1, (("p", 0), ("x", 0))))

    def test_none(self):
        self.assertIsNone(cheapest_stem(CATALOGUE.with_find("x", exactly("ab", ["b"]))))


class CatalogueVerdictTest(unittest.TestCase):
    def test_each_word(self):
        both = Claim.reads("x", 0, "a")
        word, cases = catalogue_verdict(CHAIN, both)
        self.assertEqual((word, [stem for stem, _ in cases]), ("open", list(stems(CHAIN))))
        self.assertEqual([told for _, told in cases], ["open", "open", "sure"])
        self.assertEqual(catalogue_verdict(CHAIN, Claim.lies("x", torn("ab", "a*")))[0], "sure")
        self.assertEqual(catalogue_verdict(CHAIN, Claim.lies("x", torn("ab", "b*")))[0], "never")
        self.assertTrue(only_tuples(catalogue_verdict(CHAIN, both)))

    def test_sure_in_some_stems_and_never_in_others(self):
        entries = [("x", [("copied", "first", FAITHFUL), ("copied", "first", Hand("ab", [(0, "b", "a", 0, 0)], [0]))])]
        catalogue = Catalogue("ab", entries, [("x", exactly("ab", ["a"]))])
        cases = (((("x", 0),), "sure"), ((("x", 1),), "never"))
        self.assertEqual(catalogue_verdict(catalogue, Claim.reads("first", 0, "a")), ("open", cases))

    def test_stems_that_do_not_explain(self):
        word, cases = catalogue_verdict(CATALOGUE, Claim.lies("first", torn("ab", "?")))
        self.assertEqual((word, [told for _, told in cases]), ("sure", ["sure", "sure", "no history"]))
        word, cases = catalogue_verdict(CATALOGUE, ~Claim.lies("first", torn("ab", "?")))
        self.assertEqual((word, [told for _, told in cases]), ("never", ["never", "never", "no history"]))
        hopeless = CATALOGUE.with_find("x", exactly("ab", ["b"]))
        word, cases = catalogue_verdict(hopeless, Claim.costs(3))
        self.assertEqual((word, [told for _, told in cases]), ("no history", ["no history"] * 3))

    def test_no_found_copy(self):
        self.assertEqual(catalogue_verdict(Catalogue("ab", ENTRIES, []), Claim.costs(0)), ("sure", (((), "sure"),)))
        self.assertEqual(catalogue_verdict(Catalogue("ab", [], []), Claim.reads("first", 0, "a")), ("open", (((), "open"),)))

    def test_only_first_and_found_copies(self):
        for claim, name in ((Claim.slips("q", 1), "q"), (Claim.costs(1) & Claim.apart("x", "p", 0), "p"), (Claim.lies("z", everything("abc")), "z")):
            with self.assertRaises(UnknownCopy) as caught:
                catalogue_verdict(CHAIN, claim)
            self.assertEqual(caught.exception.name, name)
        with self.assertRaises(UnknownCopy):
            catalogue_verdict(Catalogue("ab", ENTRIES, [("first", everything("ab"))]), Claim.slips("x", 1))
        for name in ("first", "x"):
            with self.assertRaises(AlphabetsDiffer) as caught:
                catalogue_verdict(CHAIN, Claim.lies(name, everything("abc")) & Claim.slips("q", 0))
            self.assertEqual((caught.exception.one, caught.exception.two), ("ab", "abc"))

    def test_errors_also_without_an_explaining_stem(self):
        hopeless = CATALOGUE.with_find("x", exactly("ab", ["b"]))
        self.assertRaises(UnknownCopy, lambda: catalogue_verdict(hopeless, Claim.slips("p", 0)))

    def test_words_of_the_document(self):
        rand = random.Random(87)
        words = collections.Counter()
        for _ in range(60):
            catalogue = random_catalogue(rand, most=4)
            names = ["first", *catalogue.found_copies]
            claim = rand.choice([
                Claim.reads(rand.choice(names), 0, "a"), Claim.lies(rand.choice(names), torn("ab", "a*")),
                Claim.slips(rand.choice(names), 0), Claim.apart(rand.choice(names), rand.choice(names), 0), Claim.costs(1),
            ])
            claim = ~claim if rand.random() < 0.5 else claim
            word, cases = catalogue_verdict(catalogue, claim)
            told = [verdict(stem_family(catalogue, stem), claim).word for stem in stems(catalogue)]
            self.assertEqual(cases, tuple(zip(stems(catalogue), told)))
            kinds = set(told) - {"no history"}
            self.assertEqual(word, {0: "no history", 1: "".join(kinds)}.get(len(kinds), "open"))
            words[word] += 1
        self.assertGreater(min(words[word] for word in ("sure", "never", "open", "no history")), 1, words)


if __name__ == "__main__":
    unittest.main()

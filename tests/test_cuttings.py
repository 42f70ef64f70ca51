import itertools
import unittest

from firsthand.cuttings import cutting_copy, cutting_cost, cutting_row, cuttings
from firsthand.errors import BadFault
from firsthand.faults import rewritten
from firsthand.strokes import row_copy, row_cost, row_exemplar, row_slips
from tests.brute import all_texts, lists_of, only_tuples

FAULTS = [
    [],
    [("omit", "ab", 2)],
    [("mistake", "a", "b", 1), ("mistake", "a", "b", 1), ("leap", "a", 3)],
    [("merge", "a", 1), ("turn", "a", "b", 2), ("double", "aba", 5), ("leap", "b", 1)],
    [("gloss", "b", "a", 4), ("omit", "b", 1), ("omit", "bb", 1), ("merge", "ab", 1), ("leap", "a", 9), ("turn", "b", "a", 2)],
]


def all_cuttings(faults, exemplar):
    """All ways to cut, from the definition, in order."""
    if not exemplar:
        return [()]
    found = []
    for stop in range(1, len(exemplar) + 1):
        old = exemplar[:stop]
        pairs = [(old, None)] if stop == 1 else []
        pairs += [(old, number) for number, fault in enumerate(faults) if rewritten(fault, old) is not None]
        for pair, rest in itertools.product(pairs, all_cuttings(faults, exemplar[stop:])):
            found.append((pair, *rest))
    return sorted(found, key=lambda cutting: [-1 if number is None else number for _, number in cutting])


class CuttingsTest(unittest.TestCase):
    def test_examples(self):
        found = list(cuttings("ab", [("omit", "ab", 2)], "ab"))
        self.assertEqual(found, [(("a", None), ("b", None)), (("ab", 0),)])
        self.assertEqual(cutting_row([("omit", "ab", 2)], (("ab", 0),)), (("a", "", 0), ("b", "", 2)))

    def test_all_cuttings_in_order(self):
        for faults in FAULTS:
            for exemplar in all_texts("ab", 6):
                expected = all_cuttings(faults, exemplar)
                self.assertEqual(list(cuttings("ab", faults, exemplar)), expected, (faults, exemplar))
                for limit in (0, 1, 2, 9):
                    few = [cutting for cutting in expected if len([n for _, n in cutting if n is not None]) <= limit]
                    self.assertEqual(list(cuttings("ab", faults, exemplar, limit=limit)), few)

    def test_empty_exemplar(self):
        self.assertEqual(list(cuttings("ab", FAULTS[1], "")), [()])

    def test_one_after_the_other(self):
        faults = [("mistake", "a", letter, 1) for letter in "bcdef"]
        found = cuttings("abcdef", faults, "a" * 12)
        self.assertEqual(next(found), (("a", None),) * 12)
        self.assertEqual(next(found), (("a", None),) * 11 + (("a", 0),))

    def test_bad_fault_when_iterated(self):
        cases = [
            ([("omit", "ab", 2), ("omit", "c", 2)], 1), ([()], 0), ([("leap", "a", 0), ("x",)], 0),
            ([("omit", "a", 1), ("omit", "a", True)], 1), ([["mistake", "a", "b", 1], ["mistake", "a", "a", 1]], 1),
        ]
        for faults, index in cases:
            found = cuttings("ab", faults, "ab")
            with self.assertRaises(BadFault) as caught:
                next(found)
            self.assertEqual(caught.exception.index, index)

    def test_parts_of_a_cutting(self):
        for faults in FAULTS:
            for exemplar in all_texts("ab", 5):
                for cutting in cuttings("ab", faults, exemplar):
                    copy = "".join(old if n is None else rewritten(faults[n], old) for old, n in cutting)
                    cost = sum(faults[n][-1] for _, n in cutting if n is not None)
                    row = cutting_row(faults, cutting)
                    self.assertEqual(cutting_copy(faults, cutting), copy)
                    self.assertEqual(cutting_cost(faults, cutting), cost)
                    self.assertEqual((row_exemplar(row), row_copy(row), row_cost(row)), (exemplar, copy, cost))
                    self.assertEqual(row_slips(row), len([n for _, n in cutting if n is not None]))

    def test_row_word_by_word(self):
        faults = [("turn", "a", "b", 4), ("leap", "a", 7), ("mistake", "b", "a", 2)]
        cutting = (("ab", 0), ("abba", 1), ("b", 2), ("a", None))
        self.assertEqual(cutting_row(faults, cutting), (
            ("a", "", 0), ("b", "ba", 4), ("a", "", 0), ("b", "", 0), ("b", "", 0), ("a", "a", 7), ("b", "a", 2), ("a", "a", 0),
        ))

    def test_lists_and_tuples(self):
        faults = lists_of(FAULTS[4])
        before = lists_of(faults)
        found = list(cuttings("ab", faults, "abab"))
        self.assertEqual(found, list(cuttings("ab", tuple(FAULTS[4]), "abab")))
        self.assertTrue(all(only_tuples(cutting) for cutting in found))
        for cutting in found:
            passed = lists_of(cutting)
            row = cutting_row(faults, passed)
            self.assertEqual(row, cutting_row(FAULTS[4], cutting))
            self.assertTrue(only_tuples(row))
            self.assertEqual(cutting_copy(faults, passed), cutting_copy(FAULTS[4], cutting))
            self.assertEqual(cutting_cost(faults, passed), cutting_cost(FAULTS[4], cutting))
            self.assertEqual(passed, lists_of(cutting))
        self.assertEqual(faults, before)

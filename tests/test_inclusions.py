import unittest

from firsthand.errors import AlphabetsDiffer
from firsthand.inclusions import include, is_inclusion_table
from firsthand.setmaking import everything, exactly, lengths, nothing, torn
from firsthand.textsets import TextSet
from tests.brute import all_texts, lists_of, only_tuples, random_sets


def pairs_of(one, two, longest):
    """The pairs of all texts in ascending order, each once."""
    found = {}
    for text in all_texts(one.alphabet, longest):
        pair = (one.state_after(text), two.state_after(text))
        if pair[0] is not None:
            found[pair] = True
    return tuple(found)


class IncludeTest(unittest.TestCase):
    def test_examples(self):
        self.assertEqual(include(exactly("ab", ["b"]), everything("ab")).table, ((0, 0), (1, 0)))
        self.assertEqual(include(everything("ab"), exactly("ab", ["", "a"])).text, "b")

    def test_random_sets(self):
        found = [TextSet(*pair) for pair in random_sets(16, 40, most=3, widths=(2,))]
        inside = 0
        for one in found:
            for two in found:
                for left, right in ((one, two), (one & two, two)):
                    answer = include(left, right)
                    missing = [text for text in all_texts("ab", 9) if text in left and text not in right]
                    self.assertIs(answer.inside, not missing)
                    self.assertEqual(answer.text, missing[0] if missing else None)
                    self.assertEqual(answer.table, () if missing else pairs_of(left, right, 9))
                    self.assertTrue(only_tuples(answer.table))
                    if not missing:
                        inside += 1
                        self.assertIs(is_inclusion_table(left, right, answer.table), True)
        self.assertGreater(inside, 100)

    def test_empty_sets(self):
        empty, some = nothing("ab"), exactly("ab", ["a"])
        answer = include(empty, some)
        self.assertEqual((answer.inside, answer.text, answer.table), (True, None, ()))
        self.assertEqual(include(empty, empty).table, ())
        answer = include(some, empty)
        self.assertEqual((answer.inside, answer.text, answer.table), (False, "a", ()))
        self.assertEqual(include(exactly("ab", [""]), empty).text, "")

    def test_none_in_a_pair(self):
        one = TextSet("ab", ((True, (1, None)), (True, (1, None))))
        two = torn("ab", "*")
        self.assertEqual(include(one, two).table, ((0, 0),))
        # The set of the texts of one letter, of which the beginnings leave the other set.
        answer = include(exactly("ab", ["aa"]), exactly("ab", ["aa", "b"]))
        self.assertEqual(answer.table, ((0, 0), (1, 1), (2, 2)))

    def test_alphabets_differ(self):
        for act in (lambda: include(everything("a"), everything("b")),
                    lambda: is_inclusion_table(everything("a"), everything("b"), ())):
            with self.assertRaises(AlphabetsDiffer) as caught:
                act()
            self.assertEqual((caught.exception.one, caught.exception.two), ("a", "b"))


class InclusionTableTest(unittest.TestCase):
    def setUp(self):
        self.one = torn("ab", "*aa")
        self.two = torn("ab", "*a")
        self.table = include(self.one, self.two).table

    def test_needs_each_pair(self):
        self.assertIs(is_inclusion_table(self.one, self.two, self.table), True)
        for at in range(len(self.table)):
            short = self.table[:at] + self.table[at + 1:]
            self.assertIs(is_inclusion_table(self.one, self.two, short), False)
        self.assertIs(is_inclusion_table(self.one, self.two, ()), False)

    def test_order_and_repetition(self):
        passed = lists_of(tuple(reversed(self.table)) + self.table)
        self.assertIs(is_inclusion_table(self.one, self.two, passed), True)
        self.assertEqual(passed, lists_of(tuple(reversed(self.table)) + self.table))

    def test_a_pair_with_an_end_that_is_no_end(self):
        ends = [state for state, row in enumerate(self.one.form) if row[0]]
        self.assertIs(is_inclusion_table(self.one, self.two, self.table + ((ends[0], None),)), False)
        self.assertIs(is_inclusion_table(self.one, self.two, self.table + ((ends[0], 0),)), False)

    def test_more_pairs_than_needed(self):
        one, two = exactly("ab", ["a"]), exactly("ab", ["a", "bb"])
        table = include(one, two).table
        self.assertEqual(table, ((0, 0), (1, 1)))
        # (0, 2) goes on to (1, None), which ends on one side alone.
        self.assertIs(is_inclusion_table(one, two, table + ((0, 2),)), False)
        # (1, 2) needs no more: `one` has no move there, but the end of `one` is none of `two`.
        ends = [state for state, row in enumerate(two.form) if row[0]]
        more = table + ((1, ends[-1]),)
        self.assertIs(is_inclusion_table(one, two, more), True)

    def test_pairs_to_which_no_text_leads_must_go_on(self):
        one, two = lengths("a", 0, 1), lengths("a", 0, 3)
        table = include(one, two).table
        self.assertEqual(table, ((0, 0), (1, 1)))
        self.assertIs(is_inclusion_table(one, two, table + ((0, 1),)), False)
        self.assertIs(is_inclusion_table(one, two, table + ((0, 1), (1, 2))), True)
        self.assertIs(is_inclusion_table(one, two, table + ((0, 3), (1, None))), False)

    def test_empty_first_set(self):
        self.assertIs(is_inclusion_table(nothing("ab"), self.two, ()), True)
        self.assertIs(is_inclusion_table(nothing("ab"), nothing("ab"), []), True)
        self.assertIs(is_inclusion_table(exactly("ab", ["a"]), nothing("ab"), ((0, None),)), False)

    def test_false_inclusion_has_no_table(self):
        one, two = lengths("a", 0, 2), lengths("a", 0, 1)
        self.assertIs(is_inclusion_table(one, two, ((0, 0), (1, 1), (2, None))), False)

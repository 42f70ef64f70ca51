"""The interface as the document lists it: files, names, arguments and which ones are passed by name."""

import importlib
import inspect
import unittest

FUNCTIONS = {
    "letters": ["is_alphabet(value)", "is_name(value)", "is_text(alphabet, value)", "text_order(text)"],
    "forms": ["least_form(form, *, width)"],
    "setmaking": [
        "nothing(alphabet)", "everything(alphabet)", "exactly(alphabet, texts)", "torn(alphabet, pattern)",
        "containing(alphabet, word)", "counting(alphabet, letter, rest, modulus)", "lengths(alphabet, least, most)",
    ],
    "setasking": [
        "least_text(texts)", "member_count(texts, length)", "total_count(texts)", "members(texts, *, longest)",
        "length_range(texts)",
    ],
    "sureparts": ["sure_beginning(texts)", "sure_ending(texts)", "sure_letters(texts)", "sure_at(texts, index)"],
    "inclusions": ["include(one, two)", "is_inclusion_table(one, two, table)"],
    "strokes": ["stroke_order(stroke)", "row_exemplar(row)", "row_copy(row)", "row_cost(row)", "row_slips(row)"],
    "faults": ["is_fault(alphabet, value)", "rewritten(fault, old)"],
    "cuttings": [
        "cuttings(alphabet, faults, exemplar, *, limit=None)", "cutting_copy(faults, cutting)",
        "cutting_cost(faults, cutting)", "cutting_row(faults, cutting)",
    ],
    "hands": ["least(hand)"],
    "handsets": ["copies(hand, texts)", "exemplars(hand, texts)", "is_total(hand)"],
    "handrows": ["rows_between(hand, exemplar, copy)", "least_row(hand, exemplar, copy)"],
    "partings": ["part(one, two)", "is_parting_table(one, two, table)"],
    "confusions": ["confusion(hand)", "is_confusion_table(hand, table)"],
    "pruning": ["restricted(family, names)", "contracted(family, name)"],
    "ledgers": ["perform(ledger, steps)", "within(block, steps)"],
    "histories": [
        "blocks(family, history)", "is_let(family, history)", "text_of(family, history, name)",
        "slips_of(family, history, name)", "cost_of(family, history)",
    ],
}

METHODS = {
    ("textsets", "TextSet"): [
        "__init__(self, alphabet, form)", "__or__(self, other)", "__and__(self, other)", "__sub__(self, other)",
        "__add__(self, other)", "__invert__(self)", "__contains__(self, value)", "__eq__(self, other)",
        "state_after(self, text)",
    ],
    ("hands", "Hand"): [
        "__init__(self, alphabet, rules, ends)", "state_after(self, row)", "lets(self, row)", "limited(self, most)",
        "__or__(self, other)", "__and__(self, other)", "__rshift__(self, other)", "__eq__(self, other)",
        "faithful(cls, alphabet)", "of_faults(cls, alphabet, faults, *, limit=None)",
    ],
    ("families", "Family"): [
        "__init__(self, alphabet)", "copied(self, name, exemplar, hand)",
        "joined(self, name, one, two, *, most=None, cost=1)", "conflated(self, name, one, two, *, most=None, cost=1)",
        "corrected(self, name, one, two, *, most=None, cost=1)", "found(self, name, texts)", "lost(self, name)",
        "without(self, name)", "making(self, name)", "kept(self, name)", "users(self, name)", "__iter__(self)",
        "__len__(self)", "__contains__(self, name)", "__eq__(self, other)",
    ],
    ("ledgers", "Ledger"): ["__init__(self, family)", "enter(self, deed)", "undo(self)", "__len__(self)"],
    ("ledgers", "Trial"): ["__init__(self, ledger)", "__enter__(self)", "__exit__(self, kind, value, trace)"],
    ("ledgers", "Supposing"): [
        "__init__(self, ledger, name, texts)", "__enter__(self)", "__exit__(self, kind, value, trace)",
    ],
}

PROPERTIES = {
    ("textsets", "TextSet"): ["is_empty"], ("hands", "Hand"): ["strokes"], ("families", "Family"): ["names", "made"],
    ("ledgers", "Ledger"): ["deeds", "known", "family"],
}

CLASS_METHODS = {("hands", "Hand"): ["faithful", "of_faults"]}

ANSWERS = [("inclusions", "Inclusion"), ("partings", "Parting"), ("confusions", "Confusion")]

GENERATORS = [("setasking", "members"), ("cuttings", "cuttings"), ("handrows", "rows_between")]


def module_of(name):
    return importlib.import_module(f"firsthand.{name}")


class InterfaceTest(unittest.TestCase):
    def test_functions(self):
        for file, listed in FUNCTIONS.items():
            for words in listed:
                function = getattr(module_of(file), words.split("(")[0])
                self.assertEqual(function.__module__, f"firsthand.{file}")
                self.assertEqual(function.__name__ + str(inspect.signature(function)), words)

    def test_methods(self):
        for (file, name), listed in METHODS.items():
            kind = getattr(module_of(file), name)
            self.assertEqual(kind.__module__, f"firsthand.{file}")
            for words in listed:
                method = vars(kind)[words.split("(")[0]]
                method = getattr(method, "__func__", method)
                self.assertEqual(method.__name__ + str(inspect.signature(method)), words)

    def test_properties_and_class_methods(self):
        for (file, name), listed in PROPERTIES.items():
            for word in listed:
                self.assertIsInstance(vars(getattr(module_of(file), name))[word], property)
        for (file, name), listed in CLASS_METHODS.items():
            for word in listed:
                self.assertIsInstance(vars(getattr(module_of(file), name))[word], classmethod)

    def test_answers(self):
        for file, name in ANSWERS:
            self.assertEqual(getattr(module_of(file), name).__module__, f"firsthand.{file}")

    def test_generators(self):
        for file, name in GENERATORS:
            self.assertTrue(inspect.isgeneratorfunction(getattr(module_of(file), name)))


if __name__ == "__main__":
    unittest.main()

"""The interface as the document lists it: files, names, arguments and which ones are passed by name."""

import importlib
import inspect
import unittest

FUNCTIONS = {
    "letters": ["is_alphabet(value)", "is_name(value)", "is_text(alphabet, value)", "text_order(text)"],
    "forms": ["least_form(form, *, width)"],
    "setmaking": [
        "nothing(alphabet)", "everything(alphabet)", "exactly(alphabet, texts)", "torn(alphabet, pattern)",
        "containing(alphabet, word)", "counting(alphabet, letter, rest, modulus)", "lengths(alphabet, least, most)",
    ],
    "setasking": [
        "least_text(texts)", "member_count(texts, length)", "total_count(texts)", "members(texts, *, longest)",
        "length_range(texts)",
    ],
    "sureparts": ["sure_beginning(texts)", "sure_ending(texts)", "sure_letters(texts)", "sure_at(texts, index)"],
    "inclusions": ["include(one, two)", "is_inclusion_table(one, two, table)"],
    "strokes": ["stroke_order(stroke)", "row_exemplar(row)", "row_copy(row)", "row_cost(row)", "row_slips(row)"],
    "faults": ["is_fault(alphabet, value)", "rewritten(fault, old)"],
    "cuttings": [
        "cuttings(alphabet, faults, exemplar, *, limit=None)", "cutting_copy(faults, cutting)",
        "cutting_cost(faults, cutting)", "cutting_row(faults, cutting)",
    ],
    "hands": ["least(hand)"],
    "handsets": ["copies(hand, texts)", "exemplars(hand, texts)", "is_total(hand)"],
    "handrows": ["rows_between(hand, exemplar, copy)", "least_row(hand, exemplar, copy)"],
    "partings": ["part(one, two)", "is_parting_table(one, two, table)"],
    "confusions": ["confusion(hand)", "is_confusion_table(hand, table)"],
    "pruning": ["restricted(family, names)", "contracted(family, name)"],
    "ledgers": ["perform(ledger, steps)", "within(block, steps)"],
    "histories": [
        "blocks(family, history)", "is_let(family, history)", "text_of(family, history, name)",
        "slips_of(family, history, name)", "cost_of(family, history)",
    ],
    "standings": [
        "start_standing(family)", "moves(family, standing, letter)", "follow(family, standing, letter, column)",
        "is_end(family, standing)", "standing_of(family, history)",
    ],
    "shortening": ["shortened(family, history, names)"],
    "claims": ["check_claim(family, claim)"],
    "marks": [
        "mark_start(claim)", "mark_after(family, claim, mark, standing, letter, column)", "mark_holds(claim, mark)",
        "holds(family, history, claim)",
    ],
    "tracks": ["start_track(family, claim)", "track_moves(family, claim, track, letter)", "is_full(family, claim, track)"],
    "walks": [
        "reachable(family, *, supposed=None)", "is_closed(family, table, *, supposed=None)",
        "least_history(family, *, supposed=None)", "histories(family, *, places, supposed=None)",
        "count_histories(family, *, places, supposed=None)", "refutation(family, *, supposed=None)",
        "is_refutation(family, table, *, supposed=None)",
    ],
    "possible": ["possible(family, name, *, supposed=None)", "history_with(family, name, text, *, supposed=None)"],
    "verdicts": [
        "verdict(family, claim, *, supposed=None)", "is_verdict_table(family, claim, word, table, *, supposed=None)",
    ],
    "sureness": [
        "sure_text(family, name, *, supposed=None)", "sure_equal(family, one, two, *, supposed=None)",
        "least_apart(family, one, two, *, supposed=None)",
    ],
    "settling": ["settling(family, name, claim, *, supposed=None)", "decides(family, name, claim, *, supposed=None)"],
    "finds": ["fewest_finds(family, claim, *, supposed=None)", "needless_finds(family, claim, *, supposed=None)"],
    "courses": ["course(ledger, claim)"],
    "prices": [
        "prices(family, *, supposed=None)", "least_cost(family, *, supposed=None)",
        "cheapest_history(family, *, supposed=None)", "is_price_table(family, table, cost, *, supposed=None)",
    ],
    "readings": [
        "readings(family, name, place, *, supposed=None)", "margin(family, name, place, *, supposed=None)",
        "history_reading(family, name, place, block, *, supposed=None)",
    ],
    "excess": ["excess(family, claim, *, supposed=None)"],
    "rebuilding": ["rebuilt(family, name, *, supposed=None)", "apparatus(family, name, *, supposed=None)"],
    "profiles": [
        "cost_profile(family, *, places, supposed=None)", "slip_range(family, name, *, supposed=None)",
        "cost_range(family, *, supposed=None)",
    ],
    "stems": [
        "stems(catalogue)", "is_stem(catalogue, stem)", "stem_family(catalogue, stem)", "explaining(catalogue)",
    ],
    "needs": ["needs(catalogue)", "with_copy(catalogue, name)", "without_copy(catalogue, name)"],
    "stempapers": [
        "stem_refutations(catalogue, *, without=None)", "are_stem_refutations(catalogue, pairs, *, without=None)",
    ],
    "choosing": ["fewest_lost(catalogue)", "cheapest_stem(catalogue)", "catalogue_verdict(catalogue, claim)"],
    "collations": [
        "collation_of(family, history, names)", "history_showing(family, names, collation, *, supposed=None)",
        "told_blocks(family, names, collation, *, told='first', supposed=None)",
    ],
    "tellings": [
        "telling(family, names, *, told='first', supposed=None)",
        "is_telling_table(family, names, table, *, told='first', supposed=None)",
    ],
    "keeping": [
        "fewest_telling(family, names, *, told='first', supposed=None)",
        "indispensable(family, names, *, told='first', supposed=None)",
    ],
    "likeness": ["compare_families(one, two, names)", "is_likeness_table(one, two, names, table)"],
    "setnotes": ["format_set(texts)", "parse_set(string)"],
    "handnotes": ["format_hand(hand)", "parse_hand(string)"],
    "familynotes": ["format_family(family)", "parse_family(string)"],
    "historynotes": ["format_history(history)", "parse_history(string)"],
    "claimnotes": ["format_claim(claim)", "parse_claim(string)"],
    "scribes": [
        "rehanded(family, names, hand)", "explains(family, names, faults, choice, *, limit=None, supposed=None)",
    ],
    "habits": [
        "least_choices(family, names, faults, *, limit=None, supposed=None)",
        "greatest_failures(family, names, faults, *, limit=None, supposed=None)",
        "habits(family, names, faults, *, limit=None, supposed=None)",
    ],
    "habitpapers": [
        "habit_refutations(family, names, faults, *, limit=None, supposed=None)",
        "are_habit_refutations(family, names, faults, good, pairs, *, limit=None, supposed=None)",
    ],
    "weights": [
        "weights(family, *, spread, fade=2, supposed=None)", "total_weight(family, *, spread, fade=2, supposed=None)",
        "is_weight_table(family, table, *, spread, fade=2, supposed=None)",
    ],
    "odds": [
        "odds(family, claim, *, spread, fade=2, supposed=None)",
        "reading_odds(family, name, place, *, spread, fade=2, supposed=None)",
        "mean_slips(family, name, *, spread, fade=2, supposed=None)",
    ],
    "chronicles": ["bonds(family, chronicle, *, gap=1)"],
    "datings": [
        "dating(family, chronicle, *, gap=1)", "is_dating(family, chronicle, years, *, gap=1)",
        "is_ring(family, chronicle, ring, *, gap=1)",
    ],
    "years": [
        "year_range(family, chronicle, name, *, gap=1)", "sure_gap(family, chronicle, one, two, *, gap=1)",
        "sure_chain(family, chronicle, one, two, *, gap=1)", "sure_order(family, chronicle, *, gap=1)",
    ],
    "datedstems": [
        "dated_explaining(catalogue, chronicle, *, gap=1)", "dated_needs(catalogue, chronicle, *, gap=1)",
        "undatable(catalogue, chronicle, *, gap=1)",
    ],
}

METHODS = {
    ("textsets", "TextSet"): [
        "__init__(self, alphabet, form)", "__or__(self, other)", "__and__(self, other)", "__sub__(self, other)",
        "__add__(self, other)", "__invert__(self)", "__contains__(self, value)", "__eq__(self, other)",
        "state_after(self, text)",
    ],
    ("hands", "Hand"): [
        "__init__(self, alphabet, rules, ends)", "state_after(self, row)", "lets(self, row)", "limited(self, most)",
        "__or__(self, other)", "__and__(self, other)", "__rshift__(self, other)", "__eq__(self, other)",
        "faithful(cls, alphabet)", "of_faults(cls, alphabet, faults, *, limit=None)",
    ],
    ("families", "Family"): [
        "__init__(self, alphabet)", "copied(self, name, exemplar, hand)",
        "joined(self, name, one, two, *, most=None, cost=1)", "conflated(self, name, one, two, *, most=None, cost=1)",
        "corrected(self, name, one, two, *, most=None, cost=1)", "found(self, name, texts)", "lost(self, name)",
        "without(self, name)", "making(self, name)", "kept(self, name)", "users(self, name)", "__iter__(self)",
        "__len__(self)", "__contains__(self, name)", "__eq__(self, other)",
    ],
    ("claims", "Claim"): [
        "__and__(self, other)", "__or__(self, other)", "__invert__(self)", "__eq__(self, other)", "of(cls, tree)",
        "lies(name, texts)", "reads(name, place, block)", "apart(one, two, most)", "slips(name, most)", "costs(most)",
        "shows(names, collation)",
    ],
    ("catalogues", "Catalogue"): [
        "__init__(self, alphabet, entries, finds)", "with_find(self, name, texts)", "with_way(self, name, making)",
    ],
    ("ledgers", "Ledger"): ["__init__(self, family)", "enter(self, deed)", "undo(self)", "__len__(self)"],
    ("ledgers", "Trial"): ["__init__(self, ledger)", "__enter__(self)", "__exit__(self, kind, value, trace)"],
    ("ledgers", "Supposing"): [
        "__init__(self, ledger, name, texts)", "__enter__(self)", "__exit__(self, kind, value, trace)",
    ],
}

PROPERTIES = {
    ("textsets", "TextSet"): ["is_empty"], ("hands", "Hand"): ["strokes"], ("families", "Family"): ["names", "made"],
    ("ledgers", "Ledger"): ["deeds", "known", "family"], ("claims", "Claim"): ["atoms"],
    ("catalogues", "Catalogue"): ["found_copies", "lost_copies"],
}

CLASS_METHODS = {("hands", "Hand"): ["faithful", "of_faults"], ("claims", "Claim"): ["of"]}

STATIC_METHODS = {("claims", "Claim"): ["lies", "reads", "apart", "slips", "costs", "shows"]}

# The fields of the objects that functions return.
ANSWERS = {
    ("inclusions", "Inclusion"): "inside text table", ("partings", "Parting"): "same row holder table",
    ("confusions", "Confusion"): "tells one two table", ("verdicts", "Verdict"): "word keeping breaking table",
    ("tellings", "Telling"): "always collation place one two table",
    ("likeness", "Likeness"): "alike collation holder history table", ("datings", "Dating"): "possible years ring",
}

GENERATORS = [
    ("setasking", "members"), ("cuttings", "cuttings"), ("handrows", "rows_between"), ("walks", "histories"),
    ("courses", "course"), ("stems", "stems"), ("stems", "explaining"), ("datedstems", "dated_explaining"),
]


def module_of(name):
    return importlib.import_module(f"firsthand.{name}")


class InterfaceTest(unittest.TestCase):
    def test_functions(self):
        for file, listed in FUNCTIONS.items():
            for words in listed:
                function = getattr(module_of(file), words.split("(")[0])
                self.assertEqual(function.__module__, f"firsthand.{file}")
                self.assertEqual(function.__name__ + str(inspect.signature(function)), words)

    def test_methods(self):
        for (file, name), listed in METHODS.items():
            kind = getattr(module_of(file), name)
            self.assertEqual(kind.__module__, f"firsthand.{file}")
            for words in listed:
                method = vars(kind)[words.split("(")[0]]
                method = getattr(method, "__func__", method)
                self.assertEqual(method.__name__ + str(inspect.signature(method)), words)

    def test_properties_and_class_methods(self):
        for (file, name), listed in PROPERTIES.items():
            for word in listed:
                self.assertIsInstance(vars(getattr(module_of(file), name))[word], property)
        for (file, name), listed in CLASS_METHODS.items():
            for word in listed:
                self.assertIsInstance(vars(getattr(module_of(file), name))[word], classmethod)
        for (file, name), listed in STATIC_METHODS.items():
            for word in listed:
                self.assertIsInstance(vars(getattr(module_of(file), name))[word], staticmethod)

    def test_answers(self):
        for (file, name), fields in ANSWERS.items():
            kind = getattr(module_of(file), name)
            self.assertEqual(kind.__module__, f"firsthand.{file}")
            made = kind(*[None for _ in fields.split()])
            self.assertEqual(sorted(vars(made)), sorted(fields.split()))

    def test_generators(self):
        for file, name in GENERATORS:
            self.assertTrue(inspect.isgeneratorfunction(getattr(module_of(file), name)))


if __name__ == "__main__":
    unittest.main()

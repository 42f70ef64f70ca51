"""Which stem is the best one, and what all stems together say about a claim."""

from firsthand.claims import check_claim
from firsthand.families import FIRST, Family
from firsthand.graphs import COST
from firsthand.hands import Hand
from firsthand.judging import NEVER, OPEN, SURE, word_for, word_of
from firsthand.prices import priced_graph
from firsthand.stems import stem_family, stems
from firsthand.sums import history_of_least, least_rests
from firsthand.walks import least_history


def fewest_lost(catalogue):
    """Return (number, stem, history) for the first explaining stem with the fewest lost copies, or None."""
    needed = len(catalogue.found_copies)
    by_number = {}
    for stem in stems(catalogue):
        by_number.setdefault(len(stem) - needed, []).append(stem)
    for number in sorted(by_number):
        for stem in by_number[number]:
            history = least_history(stem_family(catalogue, stem))
            if history is not None:
                return number, stem, history
    return None


def cheapest_stem(catalogue):
    """Return (cost, stem, history) for the first stem that has a history with the least cost of all, or None."""
    best = None
    for stem in stems(catalogue):
        graph = priced_graph(stem_family(catalogue, stem), None)
        rests = least_rests(graph, COST)
        if rests and rests[0] is not None and (best is None or rests[0] < best[0]):
            best = (rests[0], stem, history_of_least(graph, COST, rests))
            if rests[0] == 0:
                break
    return best


def check_for_all(catalogue, claim):
    """Raise the error of a claim that speaks of more than the first text and the found copies."""
    family = Family(catalogue.alphabet)
    for name in catalogue.found_copies:
        family = family.copied(name, FIRST, Hand.faithful(catalogue.alphabet))
    check_claim(family, claim)


def catalogue_verdict(catalogue, claim):
    """Return the word for a claim over all stems, and the pairs (stem, word) for each of them."""
    check_for_all(catalogue, claim)
    cases = []
    answers = {}
    for stem in stems(catalogue):
        word = word_of(stem_family(catalogue, stem), claim, None)
        cases.append((stem, word))
        if word in (SURE, OPEN):
            answers[True] = True
        if word in (NEVER, OPEN):
            answers[False] = True
    return word_for(answers), tuple(cases)

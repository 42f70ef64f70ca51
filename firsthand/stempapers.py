"""Tables that show which stems of a catalogue do not explain the finds."""

from firsthand.catalogues import check_entry
from firsthand.needs import stands_in
from firsthand.stems import is_stem, stem_family, stems
from firsthand.values import frozen
from firsthand.walks import is_refutation, refutation


def check_without(catalogue, without):
    """Raise UnknownCopy if `without` is a name, but not that of an entry."""
    if without is not None:
        check_entry(catalogue, without)


def is_looked_at(stem, without):
    """Tell whether the stem is one in which the copy `without` does not stand."""
    return without is None or not stands_in(without, stem)


def stem_refutations(catalogue, *, without=None):
    """Return the pairs (stem, table) of all stems looked at that do not explain the finds, in order."""
    check_without(catalogue, without)
    found = []
    for stem in stems(catalogue):
        if is_looked_at(stem, without):
            table = refutation(stem_family(catalogue, stem))
            if table is not None:
                found.append((stem, table))
    return tuple(found)


def are_stem_refutations(catalogue, pairs, *, without=None):
    """Tell whether the pairs refute all stems looked at, and have no others."""
    check_without(catalogue, without)
    given = frozen(pairs)
    known = {}
    for stem, _ in given:
        if not is_stem(catalogue, stem) or not is_looked_at(stem, without):
            return False
        known[stem] = True
    for stem in stems(catalogue):
        if is_looked_at(stem, without) and stem not in known:
            return False
    for stem, table in given:
        if not is_refutation(stem_family(catalogue, stem), table):
            return False
    return True

"""The stems of a catalogue that can be dated under a chronicle."""

from firsthand.datings import dating
from firsthand.needs import Tally
from firsthand.stems import stem_family, stems
from firsthand.walks import least_history


def dated_explaining(catalogue, chronicle, *, gap=1):
    """Yield the pairs (stem, history) of all datable stems that explain the finds, in order."""
    for stem in stems(catalogue):
        family = stem_family(catalogue, stem)
        if dating(family, chronicle, gap=gap).possible:
            history = least_history(family)
            if history is not None:
                yield stem, history


def dated_needs(catalogue, chronicle, *, gap=1):
    """Return the pairs (name, word) of all lost copies, by the datable stems that explain the finds."""
    tally = Tally(catalogue.lost_copies)
    for stem in stems(catalogue):
        if tally.learns_from(stem):
            family = stem_family(catalogue, stem)
            if dating(family, chronicle, gap=gap).possible and least_history(family) is not None:
                tally.note(stem)
    return tally.words()


def undatable(catalogue, chronicle, *, gap=1):
    """Return the pairs (stem, ring) of all stems that cannot be dated, in order."""
    found = []
    for stem in stems(catalogue):
        ring = dating(stem_family(catalogue, stem), chronicle, gap=gap).ring
        if ring is not None:
            found.append((stem, ring))
    return tuple(found)

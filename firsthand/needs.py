"""Which lost copies must have stood."""

from firsthand.errors import NoStem, UnknownCopy
from firsthand.stems import explaining, stem_family, stems
from firsthand.walks import least_history


def stands_in(name, stem):
    """Tell whether the copy stands in the stem."""
    return name in [other for other, number in stem]


def need_word(stood, failed):
    """Return the word for a copy that stood in some of the stems, or failed to."""
    if stood and failed:
        return "may"
    return "must" if stood else "never"


def needs(catalogue):
    """Return the pairs (name, word) of all lost copies.

    The search ends as soon as each of them stood in one stem and not in another.
    """
    lost = catalogue.lost_copies
    stood = {}
    failed = {}
    explained = False
    for stem, _ in explaining(catalogue):
        explained = True
        for name in lost:
            if stands_in(name, stem):
                stood[name] = True
            else:
                failed[name] = True
        if len(stood) == len(lost) and len(failed) == len(lost):
            break
    if not explained:
        raise NoStem()
    return tuple([(name, need_word(name in stood, name in failed)) for name in lost])


def first_explaining(catalogue, name, stands):
    """Return the first pair of `explaining` in whose stem the copy stands, or does not stand, or None."""
    if name not in [other for other, ways in catalogue.entries]:
        raise UnknownCopy(name)
    for stem in stems(catalogue):
        if stands_in(name, stem) == stands:
            history = least_history(stem_family(catalogue, stem))
            if history is not None:
                return stem, history
    return None


def with_copy(catalogue, name):
    """Return the first pair of `explaining` in whose stem the copy stands, or None."""
    return first_explaining(catalogue, name, True)


def without_copy(catalogue, name):
    """Return the first pair of `explaining` in whose stem the copy does not stand, or None."""
    return first_explaining(catalogue, name, False)

"""Stems: which copies of a catalogue were made, and how."""

from firsthand.errors import BadStem
from firsthand.families import Family, sources
from firsthand.ledgers import family_after
from firsthand.values import frozen
from firsthand.walks import least_history


def stems(catalogue):
    """Yield all stems in order.

    From the last entry to the first, it is known of each copy whether it
    stands: if it was found or if a later copy was made from it.
    """
    entries = catalogue.entries
    work = [((), len(entries), catalogue.found_copies)]
    while work:
        stem, at, standing = work.pop()
        if at == 0:
            yield stem
        else:
            name, ways = entries[at - 1]
            if name in standing:
                for number in reversed(range(len(ways))):
                    work.append((((name, number), *stem), at - 1, standing + sources(ways[number])))
            else:
                work.append((stem, at - 1, standing))


def is_stem(catalogue, stem):
    """Tell whether the sequence of pairs is a stem of the catalogue."""
    given = frozen(stem)
    chosen = {name: number for name, number in given}
    standing = catalogue.found_copies
    pairs = []
    for name, ways in reversed(catalogue.entries):
        if name in standing:
            if name not in chosen or chosen[name] not in range(len(ways)):
                return False
            pairs.append((name, chosen[name]))
            standing = standing + sources(ways[chosen[name]])
    return given == tuple(reversed(pairs))


def stem_family(catalogue, stem):
    """Return the family of a stem, with all finds."""
    if not is_stem(catalogue, stem):
        raise BadStem()
    ways = dict(catalogue.entries)
    family = Family(catalogue.alphabet)
    for name, number in stem:
        making = ways[name][number]
        family = family_after(family, (making[0], name) + making[1:])
    for name, texts in catalogue.finds:
        family = family.found(name, texts)
    return family


def explaining(catalogue):
    """Yield the pairs (stem, history) of all stems that explain the finds, in order."""
    for stem in stems(catalogue):
        history = least_history(stem_family(catalogue, stem))
        if history is not None:
            yield stem, history

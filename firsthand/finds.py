"""How few finds are enough, and which ones are needless."""

from firsthand.claims import check_asked
from firsthand.histories import text_of
from firsthand.judging import first_judged, word_of


def kept_names(family):
    """Return the names of which something is kept, in order."""
    return tuple([name for name in family.names if family.kept(name) is not None])


def choices(count):
    """Return all ascending tuples of positions below `count`, the shorter ones first, else in ascending order."""
    found = [()]
    done = 0
    while done < len(found):
        choice = found[done]
        start = choice[-1] + 1 if choice else 0
        found.extend([(*choice, at) for at in range(start, count)])
        done += 1
    return found


def family_of(family, names):
    """Return the family in which nothing is kept of all names but these."""
    small = family
    for name in kept_names(family):
        if name not in names:
            small = small.lost(name)
    return small


def fitting(family, history):
    """Return the names of which something is kept that the history fits."""
    return [name for name in kept_names(family) if text_of(family_of(family, ()), history, name) in family.kept(name)]


def is_within(choice, others):
    """Tell whether all names of the choice are among the others."""
    return len([name for name in choice if name not in others]) == 0


def fewest_finds(family, claim, *, supposed=None):
    """Return the first choice of kept names with which the claim is sure, or None.

    A history that breaks the claim speaks against all choices of names that it fits.
    """
    check_asked(family, (), (supposed, claim))
    if False in first_judged(family, claim, supposed, (False,))[1]:
        return None
    names = kept_names(family)
    against = []
    for places in choices(len(names)):
        choice = tuple([names[at] for at in places])
        if not [fits for fits in against if is_within(choice, fits)]:
            graph, found = first_judged(family_of(family, choice), claim, supposed, (False,))
            if False in found:
                against.append(fitting(family, graph.history_to(found[False])))
            elif True in found:
                return choice
    return None


def needless_finds(family, claim, *, supposed=None):
    """Return the kept names without whose find alone the word for the claim stays the same."""
    check_asked(family, (), (supposed, claim))
    word = word_of(family, claim, supposed)
    return tuple([name for name in kept_names(family) if word_of(family.lost(name), claim, supposed) == word])

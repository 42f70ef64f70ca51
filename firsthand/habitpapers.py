"""Tables that show which choices of faults do not explain what is kept."""

from firsthand.finds import choices
from firsthand.habits import greatest_failures, has_part, is_part
from firsthand.scribes import check_scribe, family_of_choice
from firsthand.values import frozen
from firsthand.walks import is_refutation, refutation


def habit_refutations(family, names, faults, *, limit=None, supposed=None):
    """Return the pairs (choice, table) of the greatest failures, in order."""
    kinds = frozen(faults)
    found = []
    for choice in greatest_failures(family, names, kinds, limit=limit, supposed=supposed):
        small = family_of_choice(family, names, kinds, choice, limit)
        found.append((choice, refutation(small, supposed=supposed)))
    return tuple(found)


def are_habit_refutations(family, names, faults, good, pairs, *, limit=None, supposed=None):
    """Tell whether the tables refute their choices, and every other choice contains one of the good ones."""
    kinds = frozen(faults)
    check_scribe(family, names, kinds, supposed)
    fine = frozen(good)
    given = frozen(pairs)
    for choice in choices(len(kinds)):
        if not has_part(choice, fine) and not [pair for pair in given if is_part(choice, pair[0])]:
            return False
    for choice, table in given:
        if not is_refutation(family_of_choice(family, names, kinds, choice, limit), table, supposed=supposed):
            return False
    return True

"""Which faults of a scribe were habits."""

from firsthand.errors import NoChoice
from firsthand.finds import choices
from firsthand.scribes import check_scribe, family_of_choice
from firsthand.values import frozen
from firsthand.walks import least_history


def is_part(choice, other):
    """Tell whether all indexes of a choice are in the other one."""
    return len([index for index in choice if index not in other]) == 0


def has_part(choice, others):
    """Tell whether one of the other choices is a part of the choice."""
    return len([other for other in others if is_part(other, choice)]) > 0


def least_choices(family, names, faults, *, limit=None, supposed=None):
    """Return all choices that explain and of which no smaller part explains, in order."""
    kinds = frozen(faults)
    check_scribe(family, names, kinds, supposed)
    least = []
    for choice in choices(len(kinds)):
        if not has_part(choice, least):
            small = family_of_choice(family, names, kinds, choice, limit)
            if least_history(small, supposed=supposed) is not None:
                least.append(choice)
    return tuple(least)


def failures_beside(least, count):
    """Return the greatest choices from so many faults of which none of the least choices is a part, in order."""
    found = []
    for choice in choices(count):
        others = [index for index in range(count) if index not in choice]
        if not has_part(choice, least) and not [index for index in others if not has_part((*choice, index), least)]:
            found.append(choice)
    return tuple(found)


def greatest_failures(family, names, faults, *, limit=None, supposed=None):
    """Return all choices that do not explain but to which no index can be added without explaining, in order."""
    return failures_beside(least_choices(family, names, faults, limit=limit, supposed=supposed), len(faults))


def habit_word(index, least):
    """Return how needful the fault with this index is."""
    having = [choice for choice in least if index in choice]
    if len(having) == len(least):
        return "must"
    return "may" if having else "needless"


def habits(family, names, faults, *, limit=None, supposed=None):
    """Return for each fault whether it is in all least choices, in some of them, or in none."""
    least = least_choices(family, names, faults, limit=limit, supposed=supposed)
    if not least:
        raise NoChoice()
    return tuple([habit_word(index, least) for index in range(len(faults))])

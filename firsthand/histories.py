"""Histories: what happened at all places, and whether a family lets it."""

from firsthand.errors import BadHistory
from firsthand.families import FIRST, check_name
from firsthand.places import begun, check_end, place_done
from firsthand.values import frozen


def check_columns(first, columns):
    """Raise BadHistory if there are not as many columns as places."""
    if len(first) != len(columns):
        raise BadHistory(min(len(first), len(columns)), FIRST)


def followed(family, history):
    """Return the blocks of all names and the cost of each place, or raise BadHistory."""
    first, columns = frozen(history)
    check_columns(first, columns)
    rows = []
    costs = []
    standing = begun(family)
    for place, letter in enumerate(first):
        row, cost, standing = place_done(family, standing, place, letter, columns[place])
        rows.append(row)
        costs.append(cost)
    check_end(family, standing, len(first))
    return rows, costs


def blocks(family, history):
    """Return the blocks of each name of the family at all places."""
    rows, _ = followed(family, history)
    return tuple([tuple([row[at] for row in rows]) for at in range(len(family.names))])


def is_let(family, history):
    """Tell whether the family lets the history."""
    try:
        blocks(family, history)
    except BadHistory:
        return False
    return True


def text_of(family, history, name):
    """Return the text of a copy."""
    check_name(family, name)
    rows = dict(zip(family.names, blocks(family, history)))
    return "".join(rows[name])


def slips_of(family, history, name):
    """Return the number of slips of a copy."""
    check_name(family, name)
    blocks(family, history)
    if name == FIRST:
        return 0
    entries = [dict(zip(family.made, column))[name] for column in history[1]]
    kind = family.making(name)[0]
    if kind == "copied":
        return sum([len([cost for _, cost in entry if cost >= 1]) for entry in entries])
    if kind == "joined":
        return len([place for place in range(1, len(entries)) if entries[place] != entries[place - 1]])
    return sum(entries)


def cost_of(family, history):
    """Return the cost of a history: the costs of all made copies together."""
    _, costs = followed(family, history)
    return sum(costs)

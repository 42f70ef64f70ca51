"""Standings: all about the beginning of a history that matters for how it can go on."""

from firsthand.casts import cast_of, kept_state
from firsthand.errors import BadHistory
from firsthand.histories import check_columns
from firsthand.places import begun, check_end, entry_slips, place_done, ways_of
from firsthand.values import frozen


def empty_names(family):
    """Return the names of which an empty set is kept, in order."""
    finds = [(name, family.kept(name)) for name in family.names]
    return [name for name, texts in finds if texts is not None and texts.is_empty]


def start_standing(family):
    """Return the standing before the first place, or None if some kept set is empty."""
    return None if empty_names(family) else begun(family)


def made_further(role, maker, state, parts):
    """Return the parts (column, cost, makers, kept, blocks, slips) of moves with one more copy, in order."""
    making, one, two, texts = role
    found = []
    for column, cost, makers, kept, row, slips in parts:
        for entry, block, paid, after in ways_of(making, maker, row[one], row[two]):
            fits, told = kept_state(texts, state, block)
            if fits:
                more = (*slips, entry_slips(making, maker, entry))
                found.append(((*column, entry), cost + paid, (*makers, after), (*kept, told), (*row, block), more))
    return found


def full_moves(family, standing, letter):
    """Return (column, cost, standing, blocks, slips) for all that can happen at the next place, in order."""
    makers, states = standing
    cast = cast_of(family)
    fits, told = kept_state(cast[0][3], states[0], letter)
    parts = [((), 0, (), (told,), (letter,), (0,))] if fits else []
    for role, maker, state in zip(cast[1:], makers, states[1:]):
        parts = made_further(role, maker, state, parts)
    return [(column, cost, (made, kept), row, slips) for column, cost, made, kept, row, slips in parts]


def moves(family, standing, letter):
    """Return all that can happen at the next place if its letter is this one."""
    found = full_moves(family, frozen(standing), letter)
    return tuple([(column, cost, after) for column, cost, after, row, slips in found])


def follow(family, standing, letter, column):
    """Return the cost and the next standing of the move with this column, or None if there is none."""
    try:
        _, cost, after = place_done(family, frozen(standing), 0, letter, frozen(column))
    except BadHistory:
        return None
    return cost, after


def is_end(family, standing):
    """Tell whether a history may end here."""
    try:
        check_end(family, frozen(standing), 0)
    except BadHistory:
        return False
    return True


def standing_of(family, history):
    """Return the standing after all places of a history, which need not be able to end there."""
    first, columns = frozen(history)
    check_columns(first, columns)
    empty = empty_names(family)
    if not first and empty:
        raise BadHistory(0, empty[0])
    standing = begun(family)
    for place, letter in enumerate(first):
        _, _, standing = place_done(family, standing, place, letter, columns[place])
    return standing

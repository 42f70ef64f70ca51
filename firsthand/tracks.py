"""Tracks: standings with the marks of a claim."""

from firsthand.marks import items_after, mark_holds, mark_start, pointed_atoms
from firsthand.standings import full_moves, is_end, start_standing
from firsthand.values import frozen


def start_track(family, claim):
    """Return the track before the first place, or None."""
    standing = start_standing(family)
    return None if standing is None else (standing, mark_start(claim))


def track_moves(family, claim, track, letter):
    """Return all that can happen at the next place if its letter is this one, with tracks instead of standings."""
    standing, mark = frozen(track)
    atoms = pointed_atoms(family, claim)
    found = []
    for column, cost, after, row, slips in full_moves(family, standing, letter):
        found.append((column, cost, (after, items_after(atoms, mark, row, slips, cost))))
    return tuple(found)


def is_full(family, claim, track):
    """Tell whether the standing of the track is an end and the claim holds with its mark."""
    standing, mark = track
    return is_end(family, standing) and mark_holds(claim, mark)

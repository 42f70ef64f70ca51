"""Casts: a family as a list with one role for each name, in which names are replaced by their positions.

A role is a tuple (making, one, two, texts): how the copy was made, the
positions of its exemplars, which are the same if it has only one, and the set
that is kept. The role of the first text has None instead of the first three.
"""

from firsthand.families import FIRST, sources


def positions(family):
    """Return a dict from the names of the family to their positions."""
    return {name: at for at, name in enumerate(family.names)}


def cast_of(family):
    """Return the roles of all names of the family, in order."""
    places = positions(family)
    cast = []
    for name in family.names:
        if name == FIRST:
            cast.append((None, None, None, family.kept(name)))
        else:
            making = family.making(name)
            exemplars = [places[exemplar] for exemplar in sources(making)]
            cast.append((making, exemplars[0], exemplars[-1], family.kept(name)))
    return cast


def kept_state(texts, state, block):
    """Return the pair of whether a copy may have this block next and the state of its kept set after it."""
    if texts is None:
        return True, None
    after = texts.state_from(state, block)
    return after is not None, after

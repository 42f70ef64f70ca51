"""Chronicles: statements about the years in which copies were made, and the bonds between these years."""

from firsthand.families import sources
from firsthand.values import frozen


def making_bonds(family, gap):
    """Return the bonds of all made copies to their exemplars."""
    found = []
    for name in family.made:
        found.extend([(name, exemplar, gap) for exemplar in sources(family.making(name))])
    return found


def scribe_bonds(names, span):
    """Return the bonds between any two positions of the names of copies that one scribe made."""
    found = []
    for at, one in enumerate(names):
        found.extend([(one, two, -span) for place, two in enumerate(names) if place != at])
    return found


def statement_bonds(family, statement):
    """Return the bonds of a statement about copies that the family has."""
    kind = statement[0]
    if kind == "scribe":
        return scribe_bonds([name for name in statement[1] if name in family], statement[2])
    if kind == "after":
        _, one, two, years = statement
        return [(two, one, years)] if one in family and two in family else []
    name = statement[1]
    if name not in family:
        return []
    if kind == "gone":
        return [(None, user, -statement[2]) for user in family.users(name)]
    _, _, least, most = statement
    found = [] if least is None else [(name, None, least)]
    return found if most is None else found + [(None, name, -most)]


def bonds(family, chronicle, *, gap=1):
    """Return the bonds of a family under a chronicle: triples (late, early, years)."""
    found = making_bonds(family, gap)
    for statement in frozen(chronicle):
        found.extend(statement_bonds(family, statement))
    return tuple(found)

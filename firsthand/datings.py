"""Whether the copies can be dated: years for all names, or a ring of bonds."""

from firsthand.chains import first_ring
from firsthand.chronicles import bonds
from firsthand.values import frozen


class Dating:
    """Whether there is a dating: the years of all names, or a ring of bonds that shows the contrary."""

    def __init__(self, possible, years, ring):
        self.possible = possible
        self.years = years
        self.ring = ring


def dating(family, chronicle, *, gap=1):
    """Return a dating of the family, or a ring of its bonds."""
    search, ring = first_ring(bonds(family, chronicle, gap=gap), family.names)
    if ring is not None:
        return Dating(False, None, ring)
    return Dating(True, tuple([(name, search.sums[name] - search.sums[None]) for name in family.names]), None)


def is_dating(family, chronicle, years, *, gap=1):
    """Tell whether the pairs give a year to each name of the family so that all bonds hold."""
    pairs = frozen(years)
    known = {name: year for name, year in pairs}
    if len(pairs) != len(family) or [name for name in family.names if name not in known]:
        return False
    # The year 0 stands in the bonds as None.
    known[None] = 0
    for late, early, least in bonds(family, chronicle, gap=gap):
        if known[late] < known[early] + least:
            return False
    return True


def is_ring(family, chronicle, ring, *, gap=1):
    """Tell whether the triples are a ring of bonds of the family."""
    given = frozen(ring)
    known = {bond: True for bond in bonds(family, chronicle, gap=gap)}
    if not given or [bond for bond in given if bond not in known]:
        return False
    for at, bond in enumerate(given):
        if bond[0] != given[at - 1][1]:
            return False
    return sum([years for late, early, years in given]) > 0

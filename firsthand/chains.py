"""Chains of bonds, in which the early name of each bond is the late name of the next one.

None stands in a bond like a name, for the year 0.
"""


class Search:
    """A search for the greatest sums of the years of all chains that end with one of the starts."""

    def __init__(self, starts):
        self.sums = {start: 0 for start in starts}
        self.last = {}

    def widen(self, given):
        """Go once through the bonds, and return the names whose sums became greater."""
        grown = []
        for bond in given:
            late, early, years = bond
            if early in self.sums and (late not in self.sums or self.sums[late] < self.sums[early] + years):
                self.sums[late] = self.sums[early] + years
                self.last[late] = bond
                grown.append(late)
        return grown

    def chain_from(self, late):
        """Return the bonds by which the search came to a name; this ends if there is no ring."""
        found = []
        here = late
        while here in self.last:
            found.append(self.last[here])
            here = self.last[here][1]
        return tuple(found)

    def ring_behind(self, late, count):
        """Return the ring from which the search came to a name by at least so many bonds."""
        here = late
        for _ in range(count):
            here = self.last[here][1]
        ring = [self.last[here]]
        while ring[-1][1] != here:
            ring.append(self.last[ring[-1][1]])
        return tuple(ring)


def searched_from(given, start):
    """Return the search from a start; there must be no ring among the bonds."""
    search = Search([start])
    while search.widen(given):
        pass
    return search


def first_ring(given, names):
    """Return the search from all names and the year 0, and a ring that it found, or None.

    A chain without a ring has fewer bonds than there are names. So what still
    grows in as many rounds lies behind a ring.
    """
    starts = [None, *names]
    search = Search(starts)
    for _ in range(len(starts)):
        grown = search.widen(given)
        if not grown:
            return search, None
    return search, search.ring_behind(grown[0], len(starts))

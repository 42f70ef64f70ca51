"""Twin tracks: two beginnings of histories with equally many places and with the same collation so far.

A twin is (one, two, parted): the numbers of two tracks, and whether the blocks
of the copy that may be told differ somewhere. The tracks are those of a graph
or of a table. The labels of their arcs are rows: the block of the copy that may
be told, and then the blocks of the copies in the collation.
"""

from firsthand.graphs import AFTER, LABEL
from firsthand.letters import row_order
from firsthand.steps import Steps
from firsthand.tracks import is_full


class Listed:
    """The tracks of a table, with arcs as those of a graph.

    An arc to a track that is not in the table leads to the number behind the last one.
    """

    def __init__(self, family, claim, tracks, label):
        self._asked = (family, claim)
        self._steps = Steps(family, claim, label=label)
        self.tracks = tracks
        self.numbers = {track: number for number, track in enumerate(tracks)}

    def arcs_from(self, number):
        """Return the arcs of a track."""
        found = []
        for letter, column, cost, after, count, label in self._steps.steps_from(self.tracks[number]):
            found.append((letter, column, cost, self.numbers.get(after, len(self.tracks)), count, label))
        return found

    def full(self, number):
        """Tell whether a history looked at may end with this track."""
        family, claim = self._asked
        return is_full(family, claim, self.tracks[number])


def told_by_row(arcs, places):
    """Return a dict from the rows at these places of the labels to the pairs (told block, number after), each once."""
    found = {}
    for arc in arcs:
        row = tuple([arc[LABEL][place] for place in places])
        if row not in found:
            found[row] = {}
        found[row][(arc[LABEL][0], arc[AFTER])] = True
    return {row: list(found[row]) for row in found}


class Twins:
    """The twins of a graph or a table, for the copies whose blocks stand at these places of the labels."""

    def __init__(self, graph, places):
        self._graph = graph
        self._places = places
        self._rows = {}

    def rows_from(self, number):
        """Return a dict from the rows with which a track goes on to the pairs (told block, number after)."""
        if number not in self._rows:
            self._rows[number] = told_by_row(self._graph.arcs_from(number), self._places)
        return self._rows[number]

    def shared_rows(self, twin):
        """Return the rows with which both tracks go on."""
        right = self.rows_from(twin[1])
        return [row for row in self.rows_from(twin[0]) if row in right]

    def further(self, twin, row):
        """Return the twins after one more place with this row, perhaps some of them several times."""
        ones = self.rows_from(twin[0])[row]
        others = self.rows_from(twin[1])[row]
        found = []
        for block, left in ones:
            for other, right in others:
                found.append((left, right, twin[2] or block != other))
        return found

    def may_part(self, twin):
        """Tell whether two histories looked at may end here although their blocks differ somewhere."""
        return twin[2] and self._graph.full(twin[0]) and self._graph.full(twin[1])


def ordered_twin(twin):
    """Return the twin with the lesser number first."""
    return min(twin[0], twin[1]), max(twin[0], twin[1]), twin[2]


def further_group(twins, members, row, seen):
    """Return the twins that are not yet seen after one more place with this row, each once."""
    found = {}
    for twin in members:
        for after in twins.further(twin, row):
            fresh = ordered_twin(after)
            if fresh not in seen:
                found[fresh] = True
    return list(found)


def members_by_row(twins, members):
    """Return a dict from the rows with which some of the twins go on to these twins."""
    found = {}
    for twin in members:
        for row in twins.shared_rows(twin):
            found.setdefault(row, []).append(twin)
    return found


def collation_to(groups, number):
    """Return the collation by which the search came to a group."""
    rows = []
    here = groups[number][0]
    while here is not None:
        rows.append(here[0])
        here = groups[here[1]][0]
    return tuple(reversed(rows))


def first_parting(twins, start):
    """Return the least collation that does not tell the blocks, or None, and a dict of the twins that were found.

    `start` has the start twin, or nothing if there is none. Twins that are
    reached by the same collation are taken together, so that the groups are in
    ascending order of the least collations. Of two twins that only differ in
    the order of their tracks one is enough.
    """
    seen = {twin: True for twin in start}
    groups = [(None, list(start))]
    done = 0
    while done < len(groups):
        members = list(groups[done][1])
        if [twin for twin in members if twins.may_part(twin)]:
            return collation_to(groups, done), seen
        by_row = members_by_row(twins, members)
        for row in sorted(list(by_row), key=row_order):
            fresh = further_group(twins, by_row[row], row, seen)
            for twin in fresh:
                seen[twin] = True
            if fresh:
                groups.append(((row, done), fresh))
        done += 1
    return None, seen

"""Graphs: the tracks that are reached, and the steps between them.

The tracks are numbered in ascending order of the least beginnings that lead to
them. They are found one after the other, as far as they are asked for.
"""

from firsthand.steps import Steps
from firsthand.tracks import is_full, start_track

# The parts of an arc (letter, column, cost, number of the next track, count, label). A step has the
# next track itself instead of its number.
COST = 2
AFTER = 3
COUNT = 4
LABEL = 5


class Graph:
    """The tracks of a family for a claim, or for None."""

    def __init__(self, family, claim, *, label=None, by_cost=False):
        start = start_track(family, claim)
        self._asked = (family, claim)
        self._steps = Steps(family, claim, label=label, by_cost=by_cost)
        self._arcs = []
        self._ends = {}
        self.tracks = [] if start is None else [start]
        self.numbers = {track: 0 for track in self.tracks}
        self.came = [None for track in self.tracks]

    def arcs_from(self, number):
        """Return the arcs of a track, in order of letters and columns."""
        while len(self._arcs) <= number:
            self._widen()
        return self._arcs[number]

    def complete(self):
        """Find all tracks that are reached, and return the graph."""
        while len(self._arcs) < len(self.tracks):
            self._widen()
        return self

    def full(self, number):
        """Tell whether a history looked at may end with this track."""
        if number not in self._ends:
            family, claim = self._asked
            self._ends[number] = is_full(family, claim, self.tracks[number])
        return self._ends[number]

    def history_to(self, number):
        """Return the least beginning that leads to a track."""
        return history_by(self.came, number)

    def _widen(self):
        """Find the arcs of the first track whose arcs are not known."""
        here = len(self._arcs)
        steps = self._steps.steps_from(self.tracks[here])
        found = []
        for letter, column, cost, after, count, label in steps:
            if after not in self.numbers:
                self.numbers[after] = len(self.tracks)
                self.tracks.append(after)
                self.came.append((letter, column, here))
            found.append((letter, column, cost, self.numbers[after], count, label))
        self._arcs.append(found)


def history_by(came, number):
    """Return the history to a track; `came` has for each track the letter, the column and the track before it."""
    letters = []
    columns = []
    here = number
    while came[here] is not None:
        letter, column, here = came[here]
        letters.append(letter)
        columns.append(column)
    return "".join(reversed(letters)), tuple(reversed(columns))


def first_full(graph):
    """Return the number of the first track with which a history looked at may end, or None."""
    number = 0
    while number < len(graph.tracks):
        if graph.full(number):
            return number
        graph.arcs_from(number)
        number += 1
    return None


def full_numbers(graph):
    """Return the numbers of all full tracks of a complete graph."""
    return [number for number in range(len(graph.tracks)) if graph.full(number)]

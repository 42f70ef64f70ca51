"""Showing: the histories looked at with a given collation, found place by place.

The steps have rows as their labels: the block of the copy that may be told,
and then the blocks of the copies in the collation.
"""

from firsthand.graphs import AFTER, LABEL
from firsthand.letters import text_order
from firsthand.steps import Steps
from firsthand.tracks import is_full, start_track


def row_label(names, told):
    """Return the label with the block of the copy that may be told and the blocks of the names."""
    return ("row", told, *names)


class Showing:
    """The beginnings of histories of a family, with or without a claim, whose columns are those of a collation."""

    def __init__(self, family, claim, names, told):
        self._asked = (family, claim)
        self._start = start_track(family, claim)
        self._steps = Steps(family, claim, label=row_label(names, told))

    def arcs_by_place(self, collation, wanted):
        """Return for each column the pairs (track, step), in the order of the least beginnings.

        `wanted` is a dict from places to the block that the copy that may be told has there.
        """
        layer = [] if self._start is None else [self._start]
        found = []
        for place, row in enumerate(collation):
            arcs = []
            for track in layer:
                for step in self._steps.steps_from(track):
                    label = step[LABEL]
                    if label[1:] == row and wanted.get(place) in (None, label[0]):
                        arcs.append((track, step))
            found.append(arcs)
            layer = list({step[AFTER]: True for track, step in arcs})
        return found

    def full_behind(self, arcs):
        """Return the tracks behind the last column with which a history looked at may end, in order."""
        if arcs:
            last = list({step[AFTER]: True for track, step in arcs[-1]})
        else:
            last = [] if self._start is None else [self._start]
        family, claim = self._asked
        return [track for track in last if is_full(family, claim, track)]

    def least_with(self, collation, wanted):
        """Return the least history looked at with this collation, or None."""
        found = self.arcs_by_place(collation, wanted)
        tracks = self.full_behind(found)
        if not tracks:
            return None
        here = tracks[0]
        letters = []
        columns = []
        for arcs in reversed(found):
            here, step = [arc for arc in arcs if arc[1][AFTER] == here][0]
            letters.append(step[0])
            columns.append(step[1])
        return "".join(reversed(letters)), tuple(reversed(columns))

    def blocks_with(self, collation):
        """Return for each column the blocks of the copy that may be told, or None if there is no history."""
        found = self.arcs_by_place(collation, {})
        useful = {track: True for track in self.full_behind(found)}
        if not useful:
            return None
        told = []
        for arcs in reversed(found):
            fits = [(track, step) for track, step in arcs if step[AFTER] in useful]
            told.append(tuple(sorted(list({step[LABEL][0]: True for track, step in fits}), key=text_order)))
            useful = {track: True for track, step in fits}
        return tuple(reversed(told))

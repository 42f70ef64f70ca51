"""Whether the blocks of a copy can be read off the collation of others."""

from firsthand.claims import check_asked
from firsthand.graphs import Graph
from firsthand.showing import Showing, row_label
from firsthand.tracks import start_track
from firsthand.twins import Listed, Twins, first_parting
from firsthand.values import frozen


class Telling:
    """Whether names tell a copy: the twin tracks that show it, or two histories that show the contrary."""

    def __init__(self, always, collation, place, one, two, table):
        self.always = always
        self.collation = collation
        self.place = place
        self.one = one
        self.two = two
        self.table = table


def twin_tracks(tracks, found):
    """Return the twin tracks of all twins that were found, and those with exchanged tracks."""
    table = []
    for one, two, parted in found:
        table.append((tracks[one], tracks[two], parted))
        if one != two:
            table.append((tracks[two], tracks[one], parted))
    return tuple(table)


def telling(family, names, *, told="first", supposed=None):
    """Tell whether the names tell the copy, whatever their collation is."""
    given = frozen(names)
    check_asked(family, (*given, told), (supposed,))
    graph = Graph(family, supposed, label=row_label(given, told))
    places = list(range(1, len(given) + 1))
    start = [(0, 0, False)] if graph.tracks else []
    collation, found = first_parting(Twins(graph, places), start)
    if collation is None:
        return Telling(True, None, None, None, None, twin_tracks(graph.tracks, found))
    showing = Showing(family, supposed, given, told)
    blocks = showing.blocks_with(collation)
    place = [at for at, several in enumerate(blocks) if len(several) > 1][0]
    one, two = [showing.least_with(collation, {place: block}) for block in blocks[place][:2]]
    return Telling(False, collation, place, one, two, ())


def is_telling_table(family, names, table, *, told="first", supposed=None):
    """Tell whether the table of twin tracks shows that the names tell the copy."""
    given = frozen(names)
    check_asked(family, (*given, told), (supposed,))
    rows = frozen(table)
    tracks = list({track: True for row in rows for track in row[:2]})
    listed = Listed(family, supposed, tracks, row_label(given, told))
    known = {(listed.numbers[one], listed.numbers[two], parted): True for one, two, parted in rows}
    start = start_track(family, supposed)
    if start is not None:
        number = listed.numbers.get(start)
        if (number, number, False) not in known:
            return False
    twins = Twins(listed, list(range(1, len(given) + 1)))
    for twin in known:
        if twins.may_part(twin):
            return False
        for row in twins.shared_rows(twin):
            if [after for after in twins.further(twin, row) if after not in known]:
                return False
    return True

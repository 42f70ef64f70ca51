"""Walks through all tracks that are reached: histories, their number, and tables that show that there is none."""

from firsthand.claims import check_asked
from firsthand.graphs import AFTER, Graph, first_full
from firsthand.layers import full_sum, next_counts, next_layer, start_layer, useful_layers
from firsthand.steps import Steps
from firsthand.tracks import is_full, start_track, track_moves
from firsthand.values import frozen


def reachable(family, *, supposed=None):
    """Return all reached tracks in ascending order of the least beginnings that lead to them."""
    check_asked(family, (), (supposed,))
    return tuple(Graph(family, supposed).complete().tracks)


def table_of(tracks):
    """Return a dict of the tracks in a sequence."""
    return {track: True for track in frozen(tracks)}


def closes(family, claim, tracks):
    """Tell whether a dict of tracks is closed."""
    start = start_track(family, claim)
    if start is not None and start not in tracks:
        return False
    steps = Steps(family, claim)
    for track in tracks:
        for step in steps.steps_from(track):
            if step[AFTER] not in tracks:
                return False
    return True


def is_closed(family, table, *, supposed=None):
    """Tell whether the table contains the start track and whatever its tracks lead to."""
    check_asked(family, (), (supposed,))
    return closes(family, supposed, table_of(table))


def least_history(family, *, supposed=None):
    """Return the least history looked at, or None."""
    check_asked(family, (), (supposed,))
    graph = Graph(family, supposed)
    number = first_full(graph)
    return None if number is None else graph.history_to(number)


def all_arcs(family, claim, graph, number):
    """Return (letter, column, next track) for each single move of a track, in order."""
    track = graph.tracks[number]
    found = []
    for letter in family.alphabet:
        for column, _, after in track_moves(family, claim, track, letter):
            found.append((letter, column, graph.numbers[after]))
    return found


def histories(family, *, places, supposed=None):
    """Yield all histories looked at with at most so many places, in ascending order."""
    check_asked(family, (), (supposed,))
    graph = Graph(family, supposed)
    layers = [start_layer(graph, True)]
    arcs = {}
    for length in range(places + 1):
        if length > 0:
            layers.append(next_layer(graph, layers[-1]))
        useful = useful_layers(graph, layers)
        work = [("", (), 0)] if useful[0] else []
        while work:
            first, columns, number = work.pop()
            if len(first) == length:
                yield first, columns
            else:
                if number not in arcs:
                    arcs[number] = all_arcs(family, supposed, graph, number)
                for letter, column, after in reversed(arcs[number]):
                    if after in useful[len(first) + 1]:
                        work.append((first + letter, (*columns, column), after))


def count_histories(family, *, places, supposed=None):
    """Return the number of histories looked at with exactly so many places."""
    check_asked(family, (), (supposed,))
    graph = Graph(family, supposed)
    layer = start_layer(graph, 1)
    for _ in range(places):
        layer = next_counts(graph, layer, 0)
    return full_sum(graph, layer)


def refutation(family, *, supposed=None):
    """Return None if there is a history to look at, otherwise all reached tracks."""
    check_asked(family, (), (supposed,))
    graph = Graph(family, supposed)
    return tuple(graph.tracks) if first_full(graph) is None else None


def is_refutation(family, table, *, supposed=None):
    """Tell whether the table is closed and has no full track."""
    check_asked(family, (), (supposed,))
    tracks = table_of(table)
    for track in tracks:
        if is_full(family, supposed, track):
            return False
    return closes(family, supposed, tracks)

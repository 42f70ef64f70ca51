"""The weights of histories, added up to fractions."""

from firsthand.claims import check_asked
from firsthand.graphs import AFTER, COST, COUNT
from firsthand.ratios import NONE_AT_ALL, added, raised
from firsthand.steps import Steps
from firsthand.tracks import is_full, start_track
from firsthand.values import frozen
from firsthand.weighing import move_count, track_weights, weighed_graph


def weights(family, *, spread, fade=2, supposed=None):
    """Return the pairs (track, fraction) of all reached tracks."""
    check_asked(family, (), (supposed,))
    graph = weighed_graph(family, supposed, spread, None)
    return tuple(zip(graph.tracks, track_weights(graph, spread, fade)))


def total_weight(family, *, spread, fade=2, supposed=None):
    """Return the fraction of the weight of all histories looked at."""
    check_asked(family, (), (supposed,))
    graph = weighed_graph(family, supposed, spread, None)
    return track_weights(graph, spread, fade)[0] if graph.tracks else NONE_AT_ALL


def weight_told(steps, full, known, spread, fade):
    """Return the weight that a track has by those of the tracks after its moves, or None if one of them is missing."""
    total = (1, 1) if full else NONE_AT_ALL
    for step in steps:
        if step[AFTER] not in known:
            return None
        top, bottom = known[step[AFTER]]
        total = added(total, (top * step[COUNT], bottom * spread * raised(fade, step[COST])))
    return total


def is_weight_table(family, table, *, spread, fade=2, supposed=None):
    """Tell whether the table of pairs (track, fraction) weighs the family."""
    check_asked(family, (), (supposed,))
    pairs = frozen(table)
    known = {track: fraction for track, fraction in pairs}
    if len(known) < len(pairs):
        return False
    start = start_track(family, supposed)
    if start is not None and start not in known:
        return False
    walk = Steps(family, supposed, by_cost=True)
    for track in known:
        steps = walk.steps_from(track)
        if spread <= move_count(steps):
            return False
        told = weight_told(steps, is_full(family, supposed, track), known, spread, fade)
        if told is None or told[0] * known[track][1] != known[track][0] * told[1]:
            return False
    return True

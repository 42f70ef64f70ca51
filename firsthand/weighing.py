"""Weighing: the weights of tracks, and of what may happen from them on.

A place is weighed by 1 divided by `spread` and by `fade` to the power of its cost.
"""

from firsthand.determining import nodes_before
from firsthand.errors import BadSpread
from firsthand.graphs import AFTER, COST, COUNT, LABEL, Graph, full_numbers
from firsthand.machines import reached_from
from firsthand.ratios import NONE_AT_ALL, added, raised
from firsthand.solving import solution


def move_count(arcs):
    """Return the number of all moves of a track."""
    return sum([arc[COUNT] for arc in arcs])


def weighed_graph(family, claim, spread, label):
    """Return the complete graph with costs and labels, or raise BadSpread if its weights may not add up."""
    graph = Graph(family, claim, label=label, by_cost=True).complete()
    counts = [move_count(graph.arcs_from(number)) for number in range(len(graph.tracks))]
    if counts and spread <= max(counts):
        raise BadSpread(max(counts) + 1)
    return graph


def weighty_arcs(graph):
    """Return for each track its arcs to tracks from which a full track is reached; other tracks weigh nothing."""
    rows = [graph.arcs_from(number) for number in range(len(graph.tracks))]
    before = nodes_before([[(None, arc[AFTER]) for arc in arcs] for arcs in rows])
    live = reached_from(full_numbers(graph), before)
    return [[arc for arc in arcs if arc[AFTER] in live] for arcs in rows]


def equation_of(arcs, spread, fade):
    """Return the scale and the parts of the equation of a track for what is summed up over its ways."""
    top = max([0] + [arc[COST] for arc in arcs])
    parts = {}
    for arc in arcs:
        parts[arc[AFTER]] = parts.get(arc[AFTER], 0) + arc[COUNT] * raised(fade, top - arc[COST])
    return spread * raised(fade, top), parts


def track_weights(graph, spread, fade):
    """Return the fraction of the weight of each track of a complete graph."""
    equations = []
    for number, arcs in enumerate(weighty_arcs(graph)):
        scale, parts = equation_of(arcs, spread, fade)
        equations.append((scale, scale if graph.full(number) else 0, parts))
    return solution(equations)


def label_sums(graph, weights, spread, fade):
    """Return for each track the sum of the weights of all ways, each times the numbers that are its labels."""
    equations = []
    for arcs in weighty_arcs(graph):
        scale, parts = equation_of(arcs, spread, fade)
        base = NONE_AT_ALL
        for arc in arcs:
            top, bottom = weights[arc[AFTER]]
            base = added(base, (scale * arc[COUNT] * arc[LABEL] * top, bottom * spread * raised(fade, arc[COST])))
        equations.append((scale * base[1], base[0], {number: parts[number] * base[1] for number in parts}))
    return solution(equations)

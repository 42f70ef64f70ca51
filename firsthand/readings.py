"""Readings: the blocks that a copy may have at a place, weighed by what they cost."""

from firsthand.claims import Claim, check_asked, joint_claim
from firsthand.graphs import AFTER, COST, LABEL, Graph
from firsthand.layers import next_costs, start_layer
from firsthand.letters import text_order
from firsthand.prices import cheapest_history
from firsthand.sums import least_rests


def labelled_graph(family, name, claim):
    """Return the complete graph with costs whose labels are the blocks of the copy."""
    return Graph(family, claim, label=("block", name), by_cost=True).complete()


def readings_after(graph, rests, layer):
    """Return the readings at the place after a layer; the layer has the least costs of the beginnings."""
    weights = {}
    for number in layer:
        for arc in graph.arcs_from(number):
            rest = rests[arc[AFTER]]
            if rest is not None:
                weight = layer[number] + arc[COST] + rest
                weights[arc[LABEL]] = min(weight, weights.get(arc[LABEL], weight))
    found = sorted([(weights[block], text_order(block), block) for block in weights])
    return tuple([(block, weight) for weight, _, block in found])


def readings(family, name, place, *, supposed=None):
    """Return the pairs (block, weight) of the readings of a copy at a place, ordered by weight and then by block."""
    check_asked(family, (name,), (supposed,))
    graph = labelled_graph(family, name, supposed)
    layer = start_layer(graph, 0)
    for _ in range(place):
        layer = next_costs(graph, layer)
    return readings_after(graph, least_rests(graph, COST), layer)


def margin(family, name, place, *, supposed=None):
    """Return how much more the second reading weighs than the first, or None if there are fewer than two."""
    found = readings(family, name, place, supposed=supposed)
    return found[1][1] - found[0][1] if len(found) > 1 else None


def history_reading(family, name, place, block, *, supposed=None):
    """Return the least of the cheapest histories looked at with this block at this place, or None."""
    check_asked(family, (name,), (supposed,))
    return cheapest_history(family, supposed=joint_claim(Claim.reads(name, place, block), supposed))

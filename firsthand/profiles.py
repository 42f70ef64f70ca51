"""How many histories cost how much, and between which bounds slips and costs lie."""

from firsthand.claims import check_asked
from firsthand.errors import NoHistory
from firsthand.graphs import COST, LABEL, Graph
from firsthand.layers import full_sum, next_counts, start_layer
from firsthand.prices import priced_graph
from firsthand.sums import greatest_sum, least_rests


def count_width(graph, places):
    """Return a number of bits that is enough for the number of all beginnings with at most so many places."""
    layer = start_layer(graph, 1)
    total = 0
    for place in range(places + 1):
        if place > 0:
            layer = next_counts(graph, layer, 0)
        total += sum(list(layer.values()))
    return total.bit_length()


def unpacked(total, width):
    """Return the pairs (cost, count) of the counts that are not 0, of which each has its own bits."""
    found = []
    mask = (1 << width) - 1
    rest = total
    cost = 0
    while rest != 0:
        count = rest & mask
        if count != 0:
            found.append((cost, count))
        rest = rest >> width
        cost += 1
    return tuple(found)


def cost_profile(family, *, places, supposed=None):
    """Return the pairs (cost, count) for all histories looked at with at most so many places.

    The counts for all costs are added at once, as the bits of one number.
    """
    check_asked(family, (), (supposed,))
    graph = Graph(family, supposed, by_cost=True)
    width = count_width(graph, places)
    layer = start_layer(graph, 1)
    total = 0
    for place in range(places + 1):
        if place > 0:
            layer = next_counts(graph, layer, width)
        total += full_sum(graph, layer)
    return unpacked(total, width)


def sum_range(graph, part):
    """Return the least and the greatest sum of a part of the arcs; the second is None if there is no greatest one."""
    rests = least_rests(graph, part)
    if not rests or rests[0] is None:
        raise NoHistory()
    return rests[0], greatest_sum(graph, part, rests)


def slip_range(family, name, *, supposed=None):
    """Return the least and the greatest number of slips of the copy in the histories looked at."""
    check_asked(family, (name,), (supposed,))
    return sum_range(Graph(family, supposed, label=("slips", name)).complete(), LABEL)


def cost_range(family, *, supposed=None):
    """Return the least and the greatest cost of the histories looked at."""
    check_asked(family, (), (supposed,))
    return sum_range(priced_graph(family, supposed), COST)

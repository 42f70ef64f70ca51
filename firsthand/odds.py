"""How likely claims and readings are, and how many slips a copy has in the mean."""

from firsthand.claims import check_asked, joint_claim
from firsthand.errors import NoHistory
from firsthand.graphs import AFTER, COST, COUNT, LABEL
from firsthand.layers import start_layer
from firsthand.letters import text_order
from firsthand.ratios import NONE_AT_ALL, added, divided, multiplied, raised
from firsthand.weighing import label_sums, track_weights, weighed_graph
from firsthand.weights import total_weight


def odds(family, claim, *, spread, fade=2, supposed=None):
    """Return the weight of the histories looked at that keep the claim, divided by that of all of them."""
    check_asked(family, (), (supposed, claim))
    whole = total_weight(family, spread=spread, fade=fade, supposed=supposed)
    if whole == NONE_AT_ALL:
        raise NoHistory()
    joint = joint_claim(claim, supposed)
    return divided(total_weight(family, spread=spread, fade=fade, supposed=joint), whole)


def weighed_further(graph, layer, fade):
    """Return a dict of the tracks after one more place with the weights of the beginnings that lead to them.

    All of these have equally many places, so that the spread makes no difference.
    """
    found = {}
    for number in layer:
        for arc in graph.arcs_from(number):
            more = multiplied(layer[number], (arc[COUNT], raised(fade, arc[COST])))
            found[arc[AFTER]] = added(found.get(arc[AFTER], NONE_AT_ALL), more)
    return found


def weights_by_block(graph, rests, layer, fade):
    """Return a dict from the readings at the place after a layer to their weights."""
    found = {}
    for number in layer:
        for arc in graph.arcs_from(number):
            rest = rests[arc[AFTER]]
            if rest != NONE_AT_ALL:
                paid = multiplied(layer[number], (arc[COUNT], raised(fade, arc[COST])))
                found[arc[LABEL]] = added(found.get(arc[LABEL], NONE_AT_ALL), multiplied(paid, rest))
    return found


def reading_odds(family, name, place, *, spread, fade=2, supposed=None):
    """Return the pairs (block, fraction) of the readings of a copy at a place, in ascending order of texts."""
    check_asked(family, (name,), (supposed,))
    graph = weighed_graph(family, supposed, spread, ("block", name))
    rests = track_weights(graph, spread, fade)
    layer = start_layer(graph, (1, 1))
    for _ in range(place):
        layer = weighed_further(graph, layer, fade)
    found = weights_by_block(graph, rests, layer, fade)
    whole = NONE_AT_ALL
    for block in found:
        whole = added(whole, found[block])
    return tuple([(block, divided(found[block], whole)) for block in sorted(list(found), key=text_order)])


def mean_slips(family, name, *, spread, fade=2, supposed=None):
    """Return the number of slips of the copy in the mean over all histories looked at, by their weights."""
    check_asked(family, (name,), (supposed,))
    graph = weighed_graph(family, supposed, spread, ("slips", name))
    rests = track_weights(graph, spread, fade)
    if not rests or rests[0] == NONE_AT_ALL:
        raise NoHistory()
    return divided(label_sums(graph, rests, spread, fade)[0], rests[0])

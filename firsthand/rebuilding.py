"""The text of a copy in the cheapest history, and the readings at its places."""

from firsthand.claims import check_asked
from firsthand.errors import NoHistory
from firsthand.graphs import COST
from firsthand.histories import text_of
from firsthand.layers import next_costs, start_layer
from firsthand.prices import cheapest_history
from firsthand.readings import labelled_graph, readings_after
from firsthand.sums import history_of_least, least_rests


def rebuilt(family, name, *, supposed=None):
    """Return the text of the copy in the cheapest history."""
    check_asked(family, (name,), (supposed,))
    history = cheapest_history(family, supposed=supposed)
    if history is None:
        raise NoHistory()
    return text_of(family, history, name)


def apparatus(family, name, *, supposed=None):
    """Return the readings of the copy at each place of the cheapest history."""
    check_asked(family, (name,), (supposed,))
    graph = labelled_graph(family, name, supposed)
    rests = least_rests(graph, COST)
    history = history_of_least(graph, COST, rests)
    if history is None:
        raise NoHistory()
    layer = start_layer(graph, 0)
    found = []
    for _ in history[1]:
        found.append(readings_after(graph, rests, layer))
        layer = next_costs(graph, layer)
    return tuple(found)

"""Layers: the tracks of a graph after a given number of places."""

from firsthand.graphs import AFTER, COST, COUNT


def start_layer(graph, worth):
    """Return the layer before the first place, with this worth for the start track."""
    return {0: worth} if graph.tracks else {}


def next_layer(graph, layer):
    """Return a dict of the tracks after one more place."""
    return {arc[AFTER]: True for number in layer for arc in graph.arcs_from(number)}


def leads_into(graph, number, layer):
    """Tell whether an arc leads from the track into the layer."""
    for arc in graph.arcs_from(number):
        if arc[AFTER] in layer:
            return True
    return False


def useful_layers(graph, layers):
    """Return for each layer a dict of its tracks that lead to a full track in the last layer."""
    useful = [{number: True for number in layers[-1] if graph.full(number)}]
    for layer in reversed(layers[:-1]):
        after = useful[-1]
        useful.append({number: True for number in layer if leads_into(graph, number, after)})
    return list(reversed(useful))


def next_counts(graph, layer, width):
    """Return a dict of the tracks after one more place with the numbers of the beginnings that lead to them.

    With a width of 0 these are plain numbers. Otherwise the beginnings with
    each cost are counted by themselves, in the `width` bits from `cost * width` on.
    """
    found = {}
    for number in layer:
        for arc in graph.arcs_from(number):
            many = (layer[number] * arc[COUNT]) << (arc[COST] * width)
            found[arc[AFTER]] = found.get(arc[AFTER], 0) + many
    return found


def next_costs(graph, layer):
    """Return a dict of the tracks after one more place with the least costs of the beginnings that lead to them."""
    found = {}
    for number in layer:
        for arc in graph.arcs_from(number):
            cost = layer[number] + arc[COST]
            found[arc[AFTER]] = min(cost, found.get(arc[AFTER], cost))
    return found


def full_sum(graph, layer):
    """Return the sum of what a layer has for its full tracks."""
    return sum([layer[number] for number in layer if graph.full(number)])

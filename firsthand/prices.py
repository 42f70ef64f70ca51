"""Prices: the least costs of histories."""

from firsthand.claims import check_asked
from firsthand.graphs import AFTER, COST, Graph
from firsthand.steps import Steps
from firsthand.sums import history_of_least, least_rests
from firsthand.tracks import is_full, start_track
from firsthand.values import frozen


def priced_graph(family, claim):
    """Return the complete graph with costs."""
    return Graph(family, claim, by_cost=True).complete()


def prices(family, *, supposed=None):
    """Return the pairs (track, price) of all reached tracks."""
    check_asked(family, (), (supposed,))
    graph = priced_graph(family, supposed)
    return tuple(zip(graph.tracks, least_rests(graph, COST)))


def least_cost(family, *, supposed=None):
    """Return the least cost of the histories looked at, or None."""
    check_asked(family, (), (supposed,))
    rests = least_rests(priced_graph(family, supposed), COST)
    return rests[0] if rests else None


def cheapest_history(family, *, supposed=None):
    """Return the least of the cheapest histories, or None."""
    check_asked(family, (), (supposed,))
    graph = priced_graph(family, supposed)
    return history_of_least(graph, COST, least_rests(graph, COST))


def is_bounded(price, paid, rest):
    """Tell whether a price is no more than what is paid and the rest; None is more than every number."""
    if rest is None:
        return True
    return price is not None and price <= paid + rest


def bounds_moves(steps, track, found):
    """Tell whether the price of the track is bounded by those of the tracks after it."""
    for step in steps.steps_from(track):
        if step[AFTER] not in found or not is_bounded(found[track], step[COST], found[step[AFTER]]):
            return False
    return True


def is_price_table(family, table, cost, *, supposed=None):
    """Tell whether the table of pairs (track, price) bounds the cost."""
    check_asked(family, (), (supposed,))
    pairs = frozen(table)
    found = {track: price for track, price in pairs}
    if len(found) < len(pairs):
        return False
    start = start_track(family, supposed)
    if start is not None and (start not in found or not is_bounded(cost, 0, found[start])):
        return False
    steps = Steps(family, supposed, by_cost=True)
    for track in found:
        if not bounds_moves(steps, track, found):
            return False
        if is_full(family, supposed, track) and found[track] != 0:
            return False
    return True

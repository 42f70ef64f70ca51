"""Sums along the ways through a complete graph: the least ones and the greatest ones.

What is added is the cost or the label of the arcs, the part with this index.
"""

from firsthand.determining import nodes_before
from firsthand.graphs import AFTER, full_numbers, history_by


def arcs_before(graph, part):
    """Return for each track the pairs (weight, track) of the arcs that lead to it."""
    found = [[] for track in graph.tracks]
    for number in range(len(graph.tracks)):
        for arc in graph.arcs_from(number):
            found[arc[AFTER]].append((arc[part], number))
    return found


def least_rests(graph, part):
    """Return for each track the least sum with which it goes on to a full track, or None if it does not.

    What waits is sorted into one list for each sum, and the list of the least sum is taken next.
    """
    before = arcs_before(graph, part)
    rests = [None for track in graph.tracks]
    waiting = {0: full_numbers(graph)}
    while waiting:
        rest = min(list(waiting))
        taken = list(waiting.pop(rest))
        for here in taken:
            if rests[here] is None:
                rests[here] = rest
                for weight, number in before[here]:
                    if rests[number] is None:
                        waiting.setdefault(rest + weight, []).append(number)
    return rests


def history_of_least(graph, part, rests):
    """Return the first history among those with the least sum, or None.

    Only those arcs are taken after which the rest is less by just their weight.
    """
    if not rests or rests[0] is None:
        return None
    came = {0: None}
    order = [0]
    done = 0
    while not graph.full(order[done]):
        here = order[done]
        for arc in graph.arcs_from(here):
            after = arc[AFTER]
            if rests[after] is not None and arc[part] + rests[after] == rests[here] and after not in came:
                came[after] = (arc[0], arc[1], here)
                order.append(after)
        done += 1
    return history_by(came, order[done])


def finished(followers):
    """Return all nodes, each one behind those that are first found from it."""
    seen = {}
    order = []
    for start in range(len(followers)):
        work = [(start, 0)]
        while work:
            node, at = work.pop()
            if at > 0 or node not in seen:
                seen[node] = True
                if at < len(followers[node]):
                    work.append((node, at + 1))
                    work.append((followers[node][at], 0))
                else:
                    order.append(node)
    return order


def ring_numbers(followers, sources):
    """Return a number for each node.

    Nodes on one ring have the same number, and no arc leads to a lesser one.
    """
    numbers = [None for row in followers]
    count = 0
    for start in reversed(finished(followers)):
        work = [start]
        while work:
            node = work.pop()
            if numbers[node] is None:
                numbers[node] = count
                work.extend([before for before in sources[node] if numbers[before] is None])
        if numbers[start] == count:
            count += 1
    return numbers


def useful_arcs(graph, part, rests):
    """Return for each track the pairs (weight, track) of the arcs from which a full track is reached."""
    found = []
    for number in range(len(graph.tracks)):
        arcs = graph.arcs_from(number)
        found.append([(arc[part], arc[AFTER]) for arc in arcs if rests[arc[AFTER]] is not None])
    return found


def greatest_sum(graph, part, rests):
    """Return the greatest sum on a way to a full track, or None if there is no greatest one.

    There must be such a way. A ring can be walked again and again, so there is
    no greatest sum if it has an arc with a weight.
    """
    arcs = useful_arcs(graph, part, rests)
    followers = [[after for weight, after in row] for row in arcs]
    numbers = ring_numbers(followers, nodes_before(arcs))
    most = {numbers[0]: 0}
    for number, here in sorted([(number, here) for here, number in enumerate(numbers) if rests[here] is not None]):
        for weight, after in arcs[here]:
            if numbers[after] == number and weight > 0:
                return None
            most[numbers[after]] = max(most[number] + weight, most.get(numbers[after], 0))
    return max([most[numbers[here]] for here in full_numbers(graph)])

"""Nets whose arcs have texts: the sets of what is written on their ways."""

from firsthand.determining import determined, nodes_before, useful_net
from firsthand.forms import machine_form
from firsthand.textsets import TextSet

# A net in which like nodes are only told from unlike ones after more rounds is left as it is.
ROUNDS = 60


def arcs_to_end(ends, arcs):
    """Return for each node the least number of arcs to an end, or None."""
    before = nodes_before(arcs)
    found = {node: 0 for node in range(len(ends)) if ends[node]}
    order = list(found)
    done = 0
    while done < len(order):
        node = order[done]
        for other in before[node]:
            if other not in found:
                found[other] = found[node] + 1
                order.append(other)
        done += 1
    return [found.get(node) for node in range(len(ends))]


def refined(classes, arcs):
    """Return classes of nodes: those of one class were in one class and have the same texts to the same ones."""
    numbers = {}
    found = []
    for number, row in zip(classes, arcs):
        sign = (number, tuple(sorted({(text, classes[target]): True for text, target in row})))
        if sign not in numbers:
            numbers[sign] = len(numbers)
        found.append(numbers[sign])
    return found


def like_nodes(ends, arcs):
    """Return the class of each node, of which all nodes go on alike, or None if that is not known soon.

    Nodes that go on alike are equally far from an end, so they are told apart by this first.
    """
    classes = refined(arcs_to_end(ends, arcs), [[] for stops in ends])
    for _ in range(ROUNDS):
        fresh = refined(classes, arcs)
        if max(fresh) == max(classes):
            return fresh
        classes = fresh
    return None


def merged_net(net):
    """Return the net with one node for each class of nodes that go on alike; node 0 stays the first one."""
    ends, arcs = net
    classes = like_nodes(ends, arcs)
    if classes is None:
        return ends, arcs
    stops = []
    rows = []
    for node, number in enumerate(classes):
        if number == len(rows):
            stops.append(ends[node])
            rows.append(list({(text, classes[target]): True for text, target in arcs[node]}))
    return stops, rows


def lettered(alphabet, arcs):
    """Return the arcs with indexes of letters instead of texts, through more nodes."""
    rows = [[] for row in arcs]
    inner = {}
    for node, row in enumerate(arcs):
        for text, target in row:
            after = target
            for at in reversed(range(1, len(text))):
                key = (text[at:], target)
                if key not in inner:
                    inner[key] = len(rows)
                    rows.append([(alphabet.find(text[at]), after)])
                after = inner[key]
            rows[node].append((alphabet.find(text[0]) if text else None, after))
    return rows


def set_of_net(alphabet, ends, arcs):
    """Return the set of the texts on all ways from node 0 to an end.

    `arcs` has a list of pairs (text, node) for each node.
    """
    stops, merged = merged_net(useful_net((ends, arcs)))
    rows = lettered(alphabet, merged)
    inner = [False for _ in range(len(rows) - len(merged))]
    return TextSet(alphabet, machine_form(determined((list(stops) + inner, rows)), len(alphabet)))

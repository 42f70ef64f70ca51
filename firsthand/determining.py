"""Nets, in which several ways read the same, and the machines that accept the same.

A net is a pair (ends, arcs) with at least the node 0, where reading begins.
`ends` tells for each node whether reading may stop there. `arcs` has a list of
pairs (label, node) for each node. An arc with the label None is taken without
reading anything.

The nodes in which a net may be are written as the bits of a number.
"""

from firsthand.machines import reached_from


def nodes_before(arcs):
    """Return for each node the nodes whose arcs lead to it."""
    found = [[] for row in arcs]
    for node, row in enumerate(arcs):
        for label, target in row:
            found[target].append(node)
    return found


def useful_net(net):
    """Return the net without the arcs to nodes from which no end is reached."""
    ends, arcs = net
    live = reached_from([node for node in range(len(ends)) if ends[node]], nodes_before(arcs))
    return ends, [[(label, target) for label, target in row if target in live] for row in arcs]


def nodes_of(held):
    """Return the nodes whose bits are set, in ascending order."""
    found = []
    rest = held
    while rest != 0:
        lowest = rest & -rest
        found.append(lowest.bit_length() - 1)
        rest = rest ^ lowest
    return found


def bits_of(nodes):
    """Return the number in which the bits of these nodes are set."""
    held = 0
    for node in nodes:
        held = held | (1 << node)
    return held


def steps_of(arcs, closed):
    """Return for each node a dict from labels to the bits of the nodes that they lead to."""
    found = []
    for row in arcs:
        steps = {}
        for label, target in row:
            if label is not None:
                steps[label] = steps.get(label, 0) | closed[target]
        found.append(steps)
    return found


def sources_of(steps):
    """Return for each node a dict from labels to the bits of the nodes from which they lead to it."""
    found = [{} for step in steps]
    for node, step in enumerate(steps):
        for label in step:
            for target in nodes_of(step[label]):
                found[target][label] = found[target].get(label, 0) | (1 << node)
    return found


def stand_ins(ends, steps):
    """Return for each node the bits of the nodes that follow it wherever it goes, itself included."""
    sources = sources_of(steps)
    stops = bits_of([node for node in range(len(ends)) if ends[node]])
    above = [stops if stop else (1 << len(ends)) - 1 for stop in ends]
    work = list(range(len(ends)))
    waiting = {node: True for node in work}
    while work:
        target = work.pop()
        del waiting[target]
        for label in sources[target]:
            may = 0
            for node in nodes_of(above[target]):
                may = may | sources[node].get(label, 0)
            for node in nodes_of(sources[target][label]):
                if above[node] & may != above[node]:
                    above[node] = above[node] & may
                    if node not in waiting:
                        waiting[node] = True
                        work.append(node)
    return above


def spared_by(ends, steps):
    """Return for each node the bits of the nodes that are not needed beside it."""
    above = stand_ins(ends, steps)
    spared = [0] * len(ends)
    for node in range(len(ends)):
        for other in nodes_of(above[node]):
            mutual = (above[other] >> node) & 1 == 1
            if other < node or (other > node and not mutual):
                spared[other] = spared[other] | (1 << node)
    return spared


def needed(held, spared):
    """Return the bits without those of nodes that are not needed beside the others."""
    rest = held
    if spared is not None:
        for node in nodes_of(held):
            rest = rest & ~spared[node]
    return rest


def explored(start, steps, spared, most):
    """Return the states and the rows of the machine, or None if it has more than `most` states."""
    numbers = {start: 0}
    order = [start]
    rows = []
    while len(rows) < len(order):
        if most is not None and len(order) > most:
            return None
        found = {}
        for node in nodes_of(order[len(rows)]):
            step = steps[node]
            for label in step:
                found[label] = found.get(label, 0) | step[label]
        row = {}
        for label in found:
            held = found[label]
            if held not in numbers:
                rest = needed(held, spared)
                if rest not in numbers:
                    numbers[rest] = len(order)
                    order.append(rest)
                numbers[held] = numbers[rest]
            row[label] = numbers[held]
        rows.append(row)
    return order, rows


def determined(net):
    """Return a machine that accepts what the net accepts.

    Only a machine that becomes large is worth the search for nodes that are
    not needed beside others.
    """
    ends, arcs = useful_net(net)
    silent = [[target for label, target in row if label is None] for row in arcs]
    closed = [bits_of(list(reached_from([node], silent))) for node in range(len(arcs))]
    steps = steps_of(arcs, closed)
    made = explored(closed[0], steps, None, 1000 + 4 * len(ends))
    if made is None:
        made = explored(closed[0], steps, spared_by(ends, steps), None)
    order, rows = made
    stops = bits_of([node for node in range(len(ends)) if ends[node]])
    return [held & stops != 0 for held in order], rows

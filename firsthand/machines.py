"""Machines: what the forms of texts and the hands have in common.

A machine is a pair (ends, rows). `ends` tells for each state whether reading
may stop there. `rows` has a dict for each state, from labels to next states.
Reading begins in state 0, and a machine without states accepts nothing. The
labels of one machine can be compared with each other.
"""


def arrivals_of(rows):
    """Return for each state the pairs (label, state) of the moves that lead to it."""
    found = [[] for row in rows]
    for state, row in enumerate(rows):
        for label in row:
            found[row[label]].append((label, state))
    return found


def reached_from(starts, followers):
    """Return a dict of the states to which the followers lead from the starts."""
    seen = {start: True for start in starts}
    work = list(seen)
    while work:
        here = work.pop()
        for state in followers[here]:
            if state not in seen:
                seen[state] = True
                work.append(state)
    return seen


def trimmed(machine):
    """Return the machine with only those states that lie on the way to an end."""
    ends, rows = machine
    stopping = [state for state in range(len(ends)) if ends[state]]
    sources = [[state for label, state in pairs] for pairs in arrivals_of(rows)]
    live = reached_from(stopping, sources)
    if 0 not in live:
        return [], []
    reached = reached_from([0], [list(row.values()) for row in rows])
    stay = [state for state in range(len(ends)) if state in live and state in reached]
    numbers = {state: at for at, state in enumerate(stay)}
    fresh = []
    for state in stay:
        row = rows[state]
        fresh.append({label: numbers[row[label]] for label in row if row[label] in numbers})
    return [ends[state] for state in stay], fresh


def sources_by_label(states, arrivals):
    """Return a list for each label, of the states that it leads to the given ones."""
    found = {}
    for state in states:
        for label, source in arrivals[state]:
            found.setdefault(label, []).append(source)
    return list(found.values())


def state_classes(ends, arrivals):
    """Return the class of each state of a trimmed machine.

    States of one class accept the same from there on. Both first classes are
    used to split others, because a missing move leads to neither of them. Of
    two halves only the smaller one has to be used again.
    """
    classes = [0 if stops else 1 for stops in ends]
    parts = {0: {}, 1: {}}
    for state, number in enumerate(classes):
        parts[number][state] = True
    work = [0, 1]
    while work:
        splitter = work.pop()
        groups = sources_by_label(list(parts[splitter]), arrivals)
        for group in groups:
            hits = {}
            for state in group:
                hits.setdefault(classes[state], []).append(state)
            for number in hits:
                moved = hits[number]
                if 2 * len(moved) > len(parts[number]):
                    marks = {state: True for state in moved}
                    moved = [state for state in parts[number] if state not in marks]
                if moved:
                    fresh = len(parts)
                    parts[fresh] = {}
                    for state in moved:
                        del parts[number][state]
                        parts[fresh][state] = True
                        classes[state] = fresh
                    work.append(fresh)
    return classes


def least_machine(machine):
    """Return the least machine that accepts the same.

    Its states are numbered in ascending order of what leads to them.
    """
    ends, rows = trimmed(machine)
    if not ends:
        return [], []
    classes = state_classes(ends, arrivals_of(rows))
    numbers = {classes[0]: 0}
    order = [0]
    fresh = []
    while len(fresh) < len(order):
        row = rows[order[len(fresh)]]
        moves = {}
        for label in sorted(row):
            number = classes[row[label]]
            if number not in numbers:
                numbers[number] = len(order)
                order.append(row[label])
            moves[label] = numbers[number]
        fresh.append(moves)
    return [ends[state] for state in order], fresh


def labels_of_both(left, right, kind):
    """Return the labels that a pair of states can go on with."""
    if kind == "and":
        return [label for label in left if label in right]
    if kind == "less":
        return list(left)
    return list(left) + [label for label in right if label not in left]


def stops_in_both(left, right, kind):
    """Tell whether a pair of states may stop."""
    if kind == "and":
        return left and right
    if kind == "less":
        return left and not right
    return left or right


def paired(one, two, kind):
    """Return the machine of what both accept ("and"), at least one ("or"), or only `one` ("less")."""
    start = (0 if one[0] else None, 0 if two[0] else None)
    numbers = {start: 0}
    order = [start]
    rows = []
    while len(rows) < len(order):
        left, right = order[len(rows)]
        left_row = {} if left is None else one[1][left]
        right_row = {} if right is None else two[1][right]
        row = {}
        for label in labels_of_both(left_row, right_row, kind):
            pair = (left_row.get(label), right_row.get(label))
            if pair not in numbers:
                numbers[pair] = len(order)
                order.append(pair)
            row[label] = numbers[pair]
        rows.append(row)
    ends = []
    for left, right in order:
        left_stops = left is not None and one[0][left]
        right_stops = right is not None and two[0][right]
        ends.append(stops_in_both(left_stops, right_stops, kind))
    return ends, rows

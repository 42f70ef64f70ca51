"""The rows of a hand with a given exemplar and a given copy."""


def costs_to_go(hand, exemplar, copy):
    """Return a dict with the least costs of what is left to be read and written.

    Its keys are triples of the places reached in the exemplar and in the copy
    and the state of the hand. A triple from which no row can be completed is missing.
    """
    costs = {(len(exemplar), len(copy), state): 0 for state in hand.ends}
    for at in reversed(range(len(exemplar))):
        for state, letter, block, cost, after in hand.rules:
            if letter == exemplar[at]:
                for start in range(len(copy) + 1):
                    rest = costs.get((at + 1, start + len(block), after))
                    if rest is not None and copy[start:].startswith(block):
                        key = (at, start, state)
                        costs[key] = min(cost + rest, costs.get(key, cost + rest))
    return costs


def rows_between(hand, exemplar, copy):
    """Yield all rows that the hand lets with this exemplar and this copy, in order."""
    costs = costs_to_go(hand, exemplar, copy)
    work = [((), 0, 0)] if (0, 0, 0) in costs else []
    while work:
        row, start, state = work.pop()
        if len(row) == len(exemplar):
            yield row
        else:
            for rule in reversed(hand.rules_for(state, exemplar[len(row)])):
                stroke = rule[1:4]
                stop = start + len(stroke[1])
                if copy[start:].startswith(stroke[1]) and (len(row) + 1, stop, rule[4]) in costs:
                    work.append(((*row, stroke), stop, rule[4]))


def least_row(hand, exemplar, copy):
    """Return the first row of the least cost with this exemplar and this copy, or None."""
    costs = costs_to_go(hand, exemplar, copy)
    if (0, 0, 0) not in costs:
        return None
    row = []
    start = 0
    state = 0
    for at, letter in enumerate(exemplar):
        left = costs[(at, start, state)]
        for rule in hand.rules_for(state, letter):
            block, cost, after = rule[2:]
            rest = costs.get((at + 1, start + len(block), after))
            if rest is not None and cost + rest == left and copy[start:].startswith(block):
                row.append((letter, block, cost))
                start = start + len(block)
                state = after
                break
    return tuple(row)

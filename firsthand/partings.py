"""Whether two hands let the same rows, with a table that shows it."""

from firsthand.letters import check_alphabets
from firsthand.strokes import ordered_stroke, stroke_order
from firsthand.values import frozen


class Parting:
    """Whether two hands let the same rows: the table that shows it, or a row that parts them."""

    def __init__(self, same, row, holder, table):
        self.same = same
        self.row = row
        self.holder = holder
        self.table = table


def next_pairs(one, two, pair):
    """Return the pairs (stroke, pair) with which a pair of states goes on, in order."""
    left = one.moves_from(pair[0])
    right = two.moves_from(pair[1])
    orders = {stroke_order(stroke): True for stroke in list(left) + list(right)}
    strokes = [ordered_stroke(order) for order in sorted(orders)]
    return [(stroke, (left.get(stroke), right.get(stroke))) for stroke in strokes]


def row_to(came, pair):
    """Return the row by which the search came to the pair."""
    row = []
    here = pair
    while came[here] is not None:
        stroke, here = came[here]
        row.append(stroke)
    return tuple(reversed(row))


def part(one, two):
    """Tell whether both hands let the same rows."""
    check_alphabets(one.alphabet, two.alphabet)
    came = {(0, 0): None}
    order = [(0, 0)]
    done = 0
    while done < len(order):
        pair = order[done]
        if one.may_stop(pair[0]) != two.may_stop(pair[1]):
            return Parting(False, row_to(came, pair), 0 if one.may_stop(pair[0]) else 1, ())
        for stroke, after in next_pairs(one, two, pair):
            if after not in came:
                came[after] = (stroke, pair)
                order.append(after)
        done += 1
    return Parting(True, None, None, tuple(order))


def is_parting_table(one, two, table):
    """Tell whether the table shows that both hands let the same rows."""
    check_alphabets(one.alphabet, two.alphabet)
    pairs = {pair: True for pair in frozen(table)}
    if (0, 0) not in pairs:
        return False
    for pair in pairs:
        if one.may_stop(pair[0]) != two.may_stop(pair[1]):
            return False
        for _, after in next_pairs(one, two, pair):
            if after not in pairs:
                return False
    return True

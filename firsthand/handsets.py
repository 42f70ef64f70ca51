"""What a hand makes of a set of texts, and from what it makes it."""

from firsthand.letters import check_alphabets
from firsthand.nets import set_of_net
from firsthand.setmaking import everything, nothing


def other_side(hand, texts, side):
    """Return the copies of the exemplars in the set for side 0, and the exemplars of the copies for side 1.

    The nodes are pairs of a state of the hand and a state of the set, which
    reads the letters of the strokes for side 0 and their blocks for side 1.
    """
    check_alphabets(hand.alphabet, texts.alphabet)
    if texts.is_empty:
        return nothing(hand.alphabet)
    numbers = {(0, 0): 0}
    order = [(0, 0)]
    arcs = []
    while len(arcs) < len(order):
        state, here = order[len(arcs)]
        moves = hand.moves_from(state)
        row = []
        for stroke in moves:
            node = (moves[stroke], texts.state_from(here, stroke[side]))
            if node[1] is not None:
                if node not in numbers:
                    numbers[node] = len(order)
                    order.append(node)
                row.append((stroke[1 - side], numbers[node]))
        arcs.append(row)
    ends = [hand.may_stop(state) and texts.ends_in(here) for state, here in order]
    return set_of_net(hand.alphabet, ends, arcs)


def copies(hand, texts):
    """Return the set of the copies of all rows of the hand with an exemplar in the set."""
    return other_side(hand, texts, 0)


def exemplars(hand, texts):
    """Return the set of the exemplars of all rows of the hand with a copy in the set."""
    return other_side(hand, texts, 1)


def is_total(hand):
    """Tell whether every text of the alphabet is the exemplar of a row that the hand lets."""
    whole = everything(hand.alphabet)
    return exemplars(hand, whole) == whole

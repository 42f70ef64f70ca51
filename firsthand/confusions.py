"""Whether a hand tells its exemplars, with a table or two rows that show it."""

from firsthand.strokes import row_exemplar
from firsthand.values import frozen

START = (0, 0, ("", ""))
EVEN = ("", "")


class Confusion:
    """Whether a hand tells its exemplars: the table that shows it, or two rows that are confused."""

    def __init__(self, tells, one, two, table):
        self.tells = tells
        self.one = one
        self.two = two
        self.table = table


def lengthened(pair, side, text):
    """Return the pair of what is ahead after one side went on by the text, or None if they part."""
    mine = pair[side] + text
    other = pair[1 - side]
    if mine.startswith(other):
        mine = mine[len(other):]
        other = ""
    elif other.startswith(mine):
        other = other[len(mine):]
        mine = ""
    else:
        return None
    return (mine, other) if side == 0 else (other, mine)


def next_triples(hand, triple):
    """Return triples (side, stroke, triple) for all continuations by one stroke."""
    ahead = triple[2]
    found = []
    for side in range(2):
        moves = hand.moves_from(triple[side]) if ahead[side] == "" else {}
        for stroke in moves:
            after = lengthened(ahead, side, stroke[1])
            if after is not None:
                states = (moves[stroke], triple[1]) if side == 0 else (triple[0], moves[stroke])
                found.append((side, stroke, (states[0], states[1], after)))
    return found


def is_joined(hand, triple):
    """Tell whether the hand may stop after both rows and their copies are equal."""
    return hand.may_stop(triple[0]) and hand.may_stop(triple[1]) and triple[2] == EVEN


def ways_to_join(hand, starts):
    """Return a dict with the joinable triples among those to which the starts lead.

    A triple leads to the pair (side, stroke) and triple with which it comes
    nearer to the end, or to None if both rows may end here.
    """
    before = {start: [] for start in starts}
    work = list(before)
    while work:
        triple = work.pop()
        for side, stroke, after in next_triples(hand, triple):
            if after not in before:
                before[after] = []
                work.append(after)
            before[after].append((side, stroke, triple))
    ways = {triple: None for triple in before if is_joined(hand, triple)}
    order = list(ways)
    done = 0
    while done < len(order):
        here = order[done]
        for side, stroke, triple in before[here]:
            if triple not in ways:
                ways[triple] = (side, stroke, here)
                order.append(triple)
        done += 1
    return ways


def rows_through(came, ways, triple, step):
    """Return two rows with equal copies: the way to the triple, the step and a way to the end."""
    rows = [[], []]
    here = triple
    while came[here] is not None:
        side, stroke, here = came[here]
        rows[side].append(stroke)
    one = list(reversed(rows[0]))
    two = list(reversed(rows[1]))
    rest = step
    while rest is not None:
        side, stroke, here = rest
        if side == 0:
            one.append(stroke)
        else:
            two.append(stroke)
        rest = ways[here]
    return tuple(one), tuple(two)


def confused(pairs_of_rows):
    """Return the answer for the first pair of rows with different exemplars; there is one."""
    differing = [pair for pair in pairs_of_rows if row_exemplar(pair[0]) != row_exemplar(pair[1])]
    one, two = differing[0]
    return Confusion(False, one, two, ())


def confusion(hand):
    """Tell whether no two rows of the hand have equal copies and different exemplars.

    If the hand tells its exemplars, a joinable triple has only one lag: the
    way from it to the end must make up for it.
    """
    ways = ways_to_join(hand, [START])
    if START not in ways:
        return Confusion(True, None, None, ())
    came = {START: None}
    lags = {START: EVEN}
    order = [START]
    done = 0
    while done < len(order):
        triple = order[done]
        if is_joined(hand, triple) and lags[triple] != EVEN:
            return confused([rows_through(came, ways, triple, None)])
        for side, stroke, after in next_triples(hand, triple):
            if after in ways:
                lag = lengthened(lags[triple], side, stroke[0])
                found = rows_through(came, ways, triple, (side, stroke, after))
                if lag is None:
                    return confused([found])
                if after not in lags:
                    came[after] = (side, stroke, triple)
                    lags[after] = lag
                    order.append(after)
                elif lag != lags[after]:
                    return confused([found, rows_through(came, ways, after, ways[after])])
        done += 1
    return Confusion(True, None, None, tuple([(*triple, lags[triple]) for triple in order]))


def is_confusion_table(hand, table):
    """Tell whether the table shows that the hand tells its exemplars."""
    twins = {twin: True for twin in frozen(table)}
    ways = ways_to_join(hand, [START] + [twin[:3] for twin in twins])
    if START in ways and (*START, EVEN) not in twins:
        return False
    for twin in twins:
        triple = twin[:3]
        if is_joined(hand, triple) and twin[3] != EVEN:
            return False
        for side, stroke, after in next_triples(hand, triple):
            if after in ways:
                lag = lengthened(twin[3], side, stroke[0])
                if lag is None or (*after, lag) not in twins:
                    return False
    return True

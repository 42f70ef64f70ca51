"""Whether two families look alike: whether their histories have the same collations."""

from firsthand.collations import history_showing
from firsthand.determining import bits_of, nodes_of
from firsthand.families import check_name
from firsthand.graphs import AFTER, LABEL, Graph
from firsthand.letters import check_alphabets, row_order
from firsthand.values import frozen


class Likeness:
    """Whether two families look alike: the traces that show it, or a collation that only one of them has."""

    def __init__(self, alike, collation, holder, history, table):
        self.alike = alike
        self.collation = collation
        self.holder = holder
        self.history = history
        self.table = table


class Side:
    """One of the two families. A set of its tracks is a number in which the bits of their indexes are set."""

    def __init__(self, family, names):
        self._graph = Graph(family, None, label=("row", *names))
        self._rows = {}

    def complete(self):
        """Find all tracks, so that each index is that of a track."""
        self._graph.complete()

    def begin(self):
        """Return the tracks before the first column."""
        return 1 if self._graph.tracks else 0

    def rows_from(self, number):
        """Return a dict from the columns with which a track goes on to the tracks after them."""
        if number not in self._rows:
            row = {}
            for arc in self._graph.arcs_from(number):
                row[arc[LABEL]] = row.get(arc[LABEL], 0) | (1 << arc[AFTER])
            self._rows[number] = row
        return self._rows[number]

    def further(self, held):
        """Return a dict from the columns with which some of the tracks go on to the tracks after them."""
        found = {}
        for number in nodes_of(held):
            rows = self.rows_from(number)
            for column in rows:
                found[column] = found.get(column, 0) | rows[column]
        return found

    def may_end(self, held):
        """Tell whether a history may end with one of the tracks."""
        for number in nodes_of(held):
            if self._graph.full(number):
                return True
        return False


def checked_sides(one, two, names):
    """Return the sides of both families, or raise the error of the alphabets or of the first name."""
    check_alphabets(one.alphabet, two.alphabet)
    for name in names:
        check_name(one, name)
        check_name(two, name)
    return Side(one, names), Side(two, names)


def next_traces(sides, trace):
    """Return the pairs (column, trace) with which a trace goes on, in ascending order of columns."""
    left = sides[0].further(trace[0])
    right = sides[1].further(trace[1])
    columns = list({column: True for column in list(left) + list(right)})
    return [(column, (left.get(column, 0), right.get(column, 0))) for column in sorted(columns, key=row_order)]


def columns_to(came, trace):
    """Return the columns by which the search came to the trace."""
    columns = []
    here = trace
    while came[here] is not None:
        column, here = came[here]
        columns.append(column)
    return tuple(reversed(columns))


def first_unlike(sides):
    """Return the first trace with which histories of only one family may end, or None, and how the search went."""
    start = (sides[0].begin(), sides[1].begin())
    came = {} if start == (0, 0) else {start: None}
    order = list(came)
    done = 0
    while done < len(order):
        trace = order[done]
        if sides[0].may_end(trace[0]) != sides[1].may_end(trace[1]):
            return trace, came
        for column, after in next_traces(sides, trace):
            if after not in came:
                came[after] = (column, trace)
                order.append(after)
        done += 1
    return None, came


def compare_families(one, two, names):
    """Tell whether both families look alike for these names."""
    given = frozen(names)
    sides = checked_sides(one, two, given)
    trace, came = first_unlike(sides)
    if trace is None:
        table = [(tuple(nodes_of(left)), tuple(nodes_of(right))) for left, right in came]
        return Likeness(True, None, None, None, tuple(table))
    collation = columns_to(came, trace)
    holder = 0 if sides[0].may_end(trace[0]) else 1
    history = history_showing(two if holder == 1 else one, given, collation)
    return Likeness(False, collation, holder, history, ())


def is_likeness_table(one, two, names, table):
    """Tell whether the table of traces shows that both families look alike."""
    sides = checked_sides(one, two, frozen(names))
    for side in sides:
        side.complete()
    traces = {(bits_of(left), bits_of(right)): True for left, right in frozen(table)}
    start = (sides[0].begin(), sides[1].begin())
    if start != (0, 0) and start not in traces:
        return False
    for left, right in traces:
        if sides[0].may_end(left) != sides[1].may_end(right):
            return False
        for _, after in next_traces(sides, (left, right)):
            if after not in traces:
                return False
    return True

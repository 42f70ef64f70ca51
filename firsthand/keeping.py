"""How few copies are enough to tell another one, and which ones are needed."""

from firsthand.claims import check_asked
from firsthand.finds import choices
from firsthand.graphs import Graph
from firsthand.showing import row_label
from firsthand.twins import Twins, first_parting
from firsthand.values import frozen


def tells(graph, choice):
    """Tell whether the names at these positions tell the copy; the labels have its block and those of all names."""
    start = [(0, 0, False)] if graph.tracks else []
    return first_parting(Twins(graph, [at + 1 for at in choice]), start)[0] is None


def fewest_telling(family, names, *, told="first", supposed=None):
    """Return the first choice of the names that tells the copy, or None."""
    given = frozen(names)
    check_asked(family, (*given, told), (supposed,))
    graph = Graph(family, supposed, label=row_label(given, told))
    if not tells(graph, list(range(len(given)))):
        return None
    for choice in choices(len(given)):
        if tells(graph, choice):
            return tuple([given[at] for at in choice])
    return given


def indispensable(family, names, *, told="first", supposed=None):
    """Return the names without which the other names do not tell the copy, in order."""
    given = frozen(names)
    check_asked(family, (*given, told), (supposed,))
    graph = Graph(family, supposed, label=row_label(given, told))
    places = list(range(len(given)))
    if not tells(graph, places):
        return given
    return tuple([given[at] for at in places if not tells(graph, [other for other in places if other != at])])

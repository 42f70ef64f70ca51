"""The texts that a copy may have had."""

from firsthand.claims import check_asked
from firsthand.graphs import AFTER, LABEL, Graph, full_numbers
from firsthand.letters import is_text
from firsthand.nets import set_of_net
from firsthand.setmaking import exactly, nothing
from firsthand.walks import least_history


def texts_to(alphabet, graph, numbers):
    """Return the set of the texts on all ways of a complete graph to one of these tracks; its labels are blocks."""
    if not graph.tracks:
        return nothing(alphabet)
    arcs = []
    for number in range(len(graph.tracks)):
        pairs = {(arc[LABEL], arc[AFTER]): True for arc in graph.arcs_from(number)}
        arcs.append(list(pairs))
    return set_of_net(alphabet, [number in numbers for number in range(len(arcs))], arcs)


def possible(family, name, *, supposed=None):
    """Return the set of all texts that the copy has in the histories looked at."""
    check_asked(family, (name,), (supposed,))
    graph = Graph(family, supposed, label=("block", name)).complete()
    return texts_to(family.alphabet, graph, full_numbers(graph))


def history_with(family, name, text, *, supposed=None):
    """Return the least history looked at in which the copy has this text, or None."""
    check_asked(family, (name,), (supposed,))
    if not is_text(family.alphabet, text):
        return None
    return least_history(family.found(name, exactly(family.alphabet, [text])), supposed=supposed)

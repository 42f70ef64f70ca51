"""Nets whose arcs have texts: the sets of what is written on their ways."""

from firsthand.forms import machine_form
from firsthand.determining import determined
from firsthand.textsets import TextSet


def lettered(alphabet, arcs):
    """Return the arcs with indexes of letters instead of texts, through more nodes."""
    rows = [[] for row in arcs]
    inner = {}
    for node, row in enumerate(arcs):
        for text, target in row:
            after = target
            for at in reversed(range(1, len(text))):
                key = (text[at:], target)
                if key not in inner:
                    inner[key] = len(rows)
                    rows.append([(alphabet.find(text[at]), after)])
                after = inner[key]
            rows[node].append((alphabet.find(text[0]) if text else None, after))
    return rows


def set_of_net(alphabet, ends, arcs):
    """Return the set of the texts on all ways from node 0 to an end.

    `arcs` has a list of pairs (text, node) for each node.
    """
    rows = lettered(alphabet, arcs)
    stops = list(ends) + [False for _ in range(len(rows) - len(arcs))]
    return TextSet(alphabet, machine_form(determined((stops, rows)), len(alphabet)))

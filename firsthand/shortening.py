"""Histories of families with fewer copies."""

from firsthand.histories import blocks
from firsthand.pruning import restricted
from firsthand.values import frozen


def shortened(family, history, names):
    """Return the history of the restricted family that has the same first text and the same entries."""
    small = restricted(family, names)
    blocks(family, history)
    first, columns = frozen(history)
    fresh = []
    for column in columns:
        fresh.append(tuple([entry for name, entry in zip(family.made, column) if name in small]))
    return first, tuple(fresh)

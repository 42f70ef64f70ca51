"""Collations: copies side by side."""

from firsthand.claims import check_asked
from firsthand.families import FIRST, check_name
from firsthand.histories import blocks
from firsthand.showing import Showing
from firsthand.values import frozen


def collation_of(family, history, names):
    """Return the collation of a history: for each place the blocks of these copies."""
    for name in names:
        check_name(family, name)
    known = dict(zip(family.names, blocks(family, history)))
    rows = [known[name] for name in names]
    return tuple([tuple([row[place] for row in rows]) for place in range(len(known[FIRST]))])


def history_showing(family, names, collation, *, supposed=None):
    """Return the least history looked at that has this collation, or None."""
    given = frozen(names)
    check_asked(family, given, (supposed,))
    return Showing(family, supposed, given, FIRST).least_with(frozen(collation), {})


def told_blocks(family, names, collation, *, told="first", supposed=None):
    """Return for each column all blocks that the copy `told` may have there, or None if there is no such history."""
    given = frozen(names)
    check_asked(family, (*given, told), (supposed,))
    return Showing(family, supposed, given, told).blocks_with(frozen(collation))

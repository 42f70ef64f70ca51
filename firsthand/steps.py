"""Steps: what can happen at one place, without telling apart what makes no difference later.

There may be very many columns. Of those that lead to the same track, with the
same label and, if it is asked for, with the same cost, a step has only the
first one in order, and their number. Blocks, slips and costs are forgotten as
soon as no later copy, no claim and no label needs them.

A label tells more about a place: ("block", name) its block, ("slips", name) the
slips of the copy there, ("apart", one, two) 1 if both blocks differ and 0 if
not, and ("row", name, name, ..) the tuple of the blocks of all these names.
"""

from firsthand.casts import cast_of, kept_state, positions
from firsthand.claims import atom_names
from firsthand.marks import items_after, pointed_atoms
from firsthand.places import entry_slips, ways_of

# The atomic claims and labels that need the blocks of their names after all copies were made.
BLOCK_KINDS = ("lies", "reads", "apart", "shows", "block", "row")


def pointed_at(atom):
    """Return the positions in an atomic claim or a label."""
    return atom[1:] if atom[0] == "row" else atom_names(atom)


def asked_of(atoms, kinds):
    """Return a dict of the positions in the atomic claims and labels of these kinds."""
    return {at: True for atom in atoms if atom[0] in kinds for at in pointed_at(atom)}


def last_uses(cast, asked):
    """Return for each position the last one whose copy needs its block; those asked for are needed after all copies."""
    last = list(range(len(cast)))
    for at, (making, one, two, _) in enumerate(cast):
        if making is not None:
            last[one] = at
            last[two] = at
    return [len(cast) if at in asked else use for at, use in enumerate(last)]


def shown(label, row, slips):
    """Return what the label tells about a place."""
    if label is None:
        return None
    if label[0] == "block":
        return row[label[1]]
    if label[0] == "slips":
        return slips[label[1]]
    if label[0] == "row":
        return tuple([row[at] for at in label[1:]])
    return 0 if row[label[1]] == row[label[2]] else 1


class Steps:
    """The steps of a family, with or without a claim; ways that were worked out are kept."""

    def __init__(self, family, claim, *, label=None, by_cost=False):
        places = positions(family)
        atoms = pointed_atoms(family, claim)
        self._letters = family.alphabet
        self._cast = cast_of(family)
        self._atoms = atoms
        self._label = None if label is None else (label[0],) + tuple([places[name] for name in label[1:]])
        told = list(atoms) if label is None else [*atoms, self._label]
        self._last = last_uses(self._cast, asked_of(told, BLOCK_KINDS))
        self._counted = asked_of(told, ("slips",))
        self._by_cost = by_cost
        self._priced = by_cost or "costs" in [atom[0] for atom in atoms]
        self._ways = {}

    def steps_from(self, track):
        """Return (letter, column, cost, track, count, label) for all steps, in order of letters and columns."""
        standing, mark = track
        firsts = {}
        counts = {}
        for letter in self._letters:
            for (makers, kept, row, slips, cost), column, count in self._parts(standing, letter):
                after = ((makers, kept), items_after(self._atoms, mark, row, slips, cost))
                key = (after, cost if self._by_cost else 0, shown(self._label, row, slips))
                if key not in firsts:
                    firsts[key] = (letter, column)
                counts[key] = counts.get(key, 0) + count
        found = []
        for key in firsts:
            letter, column = firsts[key]
            found.append((letter, column, key[1], key[0], counts[key], key[2]))
        return found

    def _parts(self, standing, letter):
        """Return (key, column, count) for all that can happen at a place with this letter.

        The key has all that matters for the copies and claims that follow:
        makers, states of kept sets, blocks, slips and cost.
        """
        makers, states = standing
        fits, told = kept_state(self._cast[0][3], states[0], letter)
        parts = [(((), (told,), (letter,), (0,), 0), (), 1)] if fits else []
        for at, maker in enumerate(makers):
            parts = self._further(at + 1, maker, states[at + 1], parts)
        return parts

    def _further(self, at, maker, state, parts):
        """Return the parts with one more copy."""
        _, one, two, _ = self._cast[at]
        columns = {}
        counts = {}
        for (makers, kept, row, slips, cost), column, count in parts:
            for entry, block, paid, after, told, slipped, many in self._options(at, maker, state, row[one], row[two]):
                left = self._left((*row, block), at)
                key = ((*makers, after), (*kept, told), left, (*slips, slipped), cost + paid)
                if key not in columns:
                    columns[key] = (*column, entry)
                counts[key] = counts.get(key, 0) + count * many
        return [(key, columns[key], counts[key]) for key in columns]

    def _left(self, row, at):
        """Return the blocks without those that are not needed after the copy at this position."""
        if at not in self._last:
            return row
        return tuple([block if self._last[place] > at else None for place, block in enumerate(row)])

    def _options(self, at, maker, state, left, right):
        """Return (entry, block, cost, maker, state, slips, count) for what a copy can do with these exemplars."""
        key = (at, maker, state, left, right)
        if key not in self._ways:
            self._ways[key] = self._options_found(at, maker, state, left, right)
        return self._ways[key]

    def _options_found(self, at, maker, state, left, right):
        making, _, _, texts = self._cast[at]
        entries = {}
        counts = {}
        for entry, block, cost, after in ways_of(making, maker, left, right):
            fits, told = kept_state(texts, state, block)
            if fits:
                slips = entry_slips(making, maker, entry) if at in self._counted else 0
                needed = block if self._last[at] > at else None
                key = (needed, cost if self._priced else 0, after, told, slips)
                if key not in entries:
                    entries[key] = entry
                counts[key] = counts.get(key, 0) + 1
        return [(entries[key], *key, counts[key]) for key in entries]

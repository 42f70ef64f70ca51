"""Marks: all about the beginning of a history that matters for a claim."""

from firsthand.casts import positions
from firsthand.claims import atom_names, check_claim
from firsthand.histories import blocks
from firsthand.places import begun, column_slips, place_done
from firsthand.values import frozen


def pointed_atoms(family, claim):
    """Return the atomic claims with positions instead of names; the claim None has none."""
    if claim is None:
        return ()
    places = positions(family)
    found = []
    for atom in claim.atoms:
        ats = tuple([places[name] for name in atom_names(atom)])
        if atom[0] == "shows":
            found.append((atom[0], ats, atom[2]))
        else:
            found.append((atom[0],) + ats + atom[1 + len(ats):])
    return tuple(found)


def first_item(atom):
    """Return the item of an atomic claim before the first place."""
    if atom[0] == "lies":
        return None if atom[2].is_empty else 0
    return 0


def reading_item(item, place, same):
    """Return the next item of `reads`; `same` tells whether the block at this place is the one that is claimed."""
    if item < place:
        return item + 1
    if item == place:
        return place + 1 if same else place + 2
    return item


def item_after(atom, item, row, slips, cost):
    """Return the item of an atomic claim after a place with these blocks, slips and cost.

    The names of the atomic claim are positions in the row of blocks and in the slips.
    """
    kind = atom[0]
    if kind == "lies":
        return atom[2].state_from(item, row[atom[1]])
    if kind == "reads":
        return reading_item(item, atom[2], row[atom[1]] == atom[3])
    if kind == "shows":
        told = tuple([row[at] for at in atom[1]])
        return item + 1 if item is not None and item < len(atom[2]) and told == atom[2][item] else None
    if kind == "apart":
        more = 0 if row[atom[1]] == row[atom[2]] else 1
    elif kind == "slips":
        more = slips[atom[1]]
    else:
        more = cost
    return min(item + more, atom[-1] + 1)


def item_holds(atom, item):
    """Tell whether an atomic claim holds with this item at the end."""
    kind = atom[0]
    if kind == "lies":
        return atom[2].ends_in(item)
    if kind == "reads":
        return item == atom[2] + 1
    if kind == "shows":
        return item == len(atom[2])
    return item <= atom[-1]


def items_after(atoms, mark, row, slips, cost):
    """Return the mark after a place with these blocks, slips and cost."""
    return tuple([item_after(atom, item, row, slips, cost) for atom, item in zip(atoms, mark)])


def tree_holds(tree, answers):
    """Return whether a claim holds, and the answers that are left behind those of its atomic claims."""
    if tree[0] == "not":
        holds_inside, rest = tree_holds(tree[1], answers)
        return not holds_inside, rest
    if tree[0] in ("and", "or"):
        left, rest = tree_holds(tree[1], answers)
        right, rest = tree_holds(tree[2], rest)
        return (left and right if tree[0] == "and" else left or right), rest
    return answers[0], answers[1:]


def mark_start(claim):
    """Return the mark before the first place; that of the claim None is empty."""
    return () if claim is None else tuple([first_item(atom) for atom in claim.atoms])


def mark_after(family, claim, mark, standing, letter, column):
    """Return the mark after one more place, with the move of this letter and this column."""
    told = frozen(column)
    here = frozen(standing)
    row, cost, _ = place_done(family, here, 0, letter, told)
    return items_after(pointed_atoms(family, claim), mark, row, column_slips(family, here, told), cost)


def mark_holds(claim, mark):
    """Tell whether a history with this mark at its end keeps the claim; None is always kept."""
    if claim is None:
        return True
    answers = [item_holds(atom, item) for atom, item in zip(claim.atoms, mark)]
    return tree_holds(claim.tree, answers)[0]


def holds(family, history, claim):
    """Tell whether the history keeps the claim."""
    check_claim(family, claim)
    blocks(family, history)
    first, columns = frozen(history)
    atoms = pointed_atoms(family, claim)
    mark = mark_start(claim)
    standing = begun(family)
    for place, letter in enumerate(first):
        slips = column_slips(family, standing, columns[place])
        row, cost, standing = place_done(family, standing, place, letter, columns[place])
        mark = items_after(atoms, mark, row, slips, cost)
    return mark_holds(claim, mark)

"""The written form of claims."""

from firsthand.claims import Claim
from firsthand.errors import BadNotation
from firsthand.letters import is_name
from firsthand.notation import LONGEST_BLOCK, block_in, check_same, check_single, number_in, parts_in
from firsthand.setnotes import format_set, set_in

MOST_ATOMS = 6
MOST_OPERATORS = 10
MOST_NAMES = 9
MOST_COLUMNS = 12
MOST_PLACE = 12
MOST_SLIPS = 9
MOST_COST = 99
# Between the two claims of `and` and of `or`.
LINK = "&"


def collation_note(collation):
    """Return the written form of a collation."""
    return "".join([",".join(list(column)) + "|" for column in collation])


def tree_note(tree):
    """Return the written form of the claim with this tree."""
    kind = tree[0]
    if kind in ("and", "or"):
        return f"{kind}({tree_note(tree[1])}{LINK}{tree_note(tree[2])})"
    if kind == "not":
        return f"not({tree_note(tree[1])})"
    if kind == "lies":
        return f"lies({tree[1]};{format_set(tree[2])})"
    if kind == "shows":
        names = ",".join(list(tree[1]))
        return f"shows({names};{collation_note(tree[2])})"
    words = ";".join([str(part) for part in tree[1:]])
    return f"{kind}({words})"


def format_claim(claim):
    """Return the written form of a claim."""
    return tree_note(claim.tree)


def name_in(word):
    """Return the name that is written."""
    if not is_name(word):
        raise BadNotation(0)
    return word


def names_in(words):
    """Return the names that are written, of which there may be none."""
    names = [name_in(word) for word in words.split(",")] if words else []
    if len(names) > MOST_NAMES:
        raise BadNotation(0)
    return tuple(names)


def column_in(words, width):
    """Return the column that is written, with so many blocks."""
    if width == 0:
        if words:
            raise BadNotation(0)
        return ()
    return tuple([block_in(word, LONGEST_BLOCK) for word in parts_in(words, ",", width)])


def collation_in(words, width):
    """Return the collation that is written; a column ends with a stroke, so nothing stands behind the last one."""
    columns = words.split("|")
    if columns[-1] or len(columns) - 1 > MOST_COLUMNS:
        raise BadNotation(0)
    return tuple([column_in(column, width) for column in columns[:-1]])


def atom_in(kind, inner):
    """Return the tree of the atomic claim that is written."""
    if kind == "lies":
        name, line = parts_in(inner, ";", 2)
        return kind, name_in(name), set_in(line)
    if kind == "reads":
        name, place, block = parts_in(inner, ";", 3)
        return kind, name_in(name), number_in(place, MOST_PLACE), block_in(block, LONGEST_BLOCK)
    if kind == "apart":
        one, two, most = parts_in(inner, ";", 3)
        return kind, name_in(one), name_in(two), number_in(most, MOST_SLIPS)
    if kind == "slips":
        name, most = parts_in(inner, ";", 2)
        return kind, name_in(name), number_in(most, MOST_SLIPS)
    if kind == "costs":
        return kind, number_in(inner, MOST_COST)
    if kind != "shows":
        raise BadNotation(0)
    words, columns = parts_in(inner, ";", 2)
    names = names_in(words)
    return kind, names, collation_in(columns, len(names))


def link_in(inner):
    """Return the place of the sign between two claims that is in none of them."""
    depth = 0
    for at, sign in enumerate(inner):
        if sign == "(":
            depth += 1
        elif sign == ")":
            depth -= 1
        elif sign == LINK and depth == 0:
            return at
    raise BadNotation(0)


def tree_in(text):
    """Return the tree of the claim that is written."""
    kind, _, rest = text.partition("(")
    if not rest.endswith(")"):
        raise BadNotation(0)
    inner = rest[:-1]
    if kind in ("and", "or"):
        split = link_in(inner)
        return kind, tree_in(inner[:split]), tree_in(inner[split + 1:])
    if kind == "not":
        return kind, tree_in(inner)
    return atom_in(kind, inner)


def operators_of(tree):
    """Return the number of operators of a tree."""
    if tree[0] in ("and", "or"):
        return 1 + operators_of(tree[1]) + operators_of(tree[2])
    return 1 + operators_of(tree[1]) if tree[0] == "not" else 0


def claim_in(line):
    """Return the claim whose written form is the line.

    Each atomic claim and each operator has one bracket; with more of them than
    are allowed the claims would stand too deep in each other.
    """
    if len(line.split("(")) - 1 > MOST_ATOMS + MOST_OPERATORS:
        raise BadNotation(0)
    claim = Claim.of(tree_in(line))
    if len(claim.atoms) > MOST_ATOMS or operators_of(claim.tree) > MOST_OPERATORS:
        raise BadNotation(0)
    check_same(line, format_claim(claim))
    return claim


def parse_claim(string):
    """Return the claim whose written form is the string."""
    lines = string.split("\n")
    claim = claim_in(lines[0])
    check_single(lines)
    return claim

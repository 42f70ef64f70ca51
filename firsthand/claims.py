"""Claims: what is said about a history."""

from firsthand.families import check_name
from firsthand.letters import check_alphabets
from firsthand.values import frozen


def atoms_of(tree):
    """Return the trees of the atomic claims from left to right."""
    if tree[0] in ("and", "or"):
        return atoms_of(tree[1]) + atoms_of(tree[2])
    if tree[0] == "not":
        return atoms_of(tree[1])
    return (tree,)


def atom_names(atom):
    """Return the names of an atomic claim, in order."""
    if atom[0] == "costs":
        return ()
    if atom[0] == "shows":
        return atom[1]
    if atom[0] == "apart":
        return (atom[1], atom[2])
    return (atom[1],)


class Claim:
    """Something that is said about a history."""

    def __init__(self, tree):
        self.tree = frozen(tree)

    @staticmethod
    def lies(name, texts):
        """Return the claim that the text of the copy is in the set."""
        return Claim(("lies", name, texts))

    @staticmethod
    def reads(name, place, block):
        """Return the claim that there is this place and that the copy has this block there."""
        return Claim(("reads", name, place, block))

    @staticmethod
    def apart(one, two, most):
        """Return the claim that the blocks of two copies differ at at most `most` places."""
        return Claim(("apart", one, two, most))

    @staticmethod
    def slips(name, most):
        """Return the claim that the copy has at most `most` slips."""
        return Claim(("slips", name, most))

    @staticmethod
    def costs(most):
        """Return the claim that the cost of the history is at most `most`."""
        return Claim(("costs", most))

    @staticmethod
    def shows(names, collation):
        """Return the claim that the blocks of the copies are just this collation."""
        return Claim(("shows", names, collation))

    @classmethod
    def of(cls, tree):
        """Return the claim with this tree."""
        return cls(tree)

    @property
    def atoms(self):
        """The trees of the atomic claims from left to right, with repetition."""
        return atoms_of(self.tree)

    def __and__(self, other):
        return Claim(("and", self.tree, other.tree))

    def __or__(self, other):
        return Claim(("or", self.tree, other.tree))

    def __invert__(self):
        return Claim(("not", self.tree))

    def __eq__(self, other):
        return isinstance(other, Claim) and self.tree == other.tree


def check_claim(family, claim):
    """Raise the error of the first atomic claim that does not fit the family."""
    for atom in claim.atoms:
        for name in atom_names(atom):
            check_name(family, name)
        if atom[0] == "lies":
            check_alphabets(family.alphabet, atom[2].alphabet)


def check_asked(family, names, claims):
    """Raise the error of the first name, or else of the first claim, that does not fit the family."""
    for name in names:
        check_name(family, name)
    for claim in claims:
        if claim is not None:
            check_claim(family, claim)


def joint_claim(claim, supposed):
    """Return the claim that also says what is supposed, if anything is."""
    return claim if supposed is None else supposed & claim

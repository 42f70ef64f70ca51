"""Families of copies: how each copy was made, and what is kept of it."""

from firsthand.errors import BadName, NotKept, StillUsed, TakenName, TooManyCopies, UnknownCopy
from firsthand.letters import check_alphabet, check_alphabets, is_name

FIRST = "first"
MOST_COPIES = 8


def sources(making):
    """Return the exemplars of a making."""
    if making[0] == "copied":
        return (making[1],)
    return (making[1], making[2])


def assembled(alphabet, names, makings, finds):
    """Return the family with these names, makings of the made copies and kept sets of all names."""
    family = Family(alphabet)
    family._names = tuple(names)
    family._makings = tuple(makings)
    family._finds = tuple(finds)
    return family


def check_name(family, name):
    """Raise UnknownCopy if the family does not have the name."""
    if name not in family:
        raise UnknownCopy(name)


def check_new(family, name, exemplars):
    """Raise the error that forbids one more copy of this name from these exemplars."""
    if not is_name(name):
        raise BadName(name)
    if name in family:
        raise TakenName(name)
    if len(family.made) >= MOST_COPIES:
        raise TooManyCopies(len(family.made) + 1)
    for exemplar in exemplars:
        check_name(family, exemplar)


class Family:
    """The first text and the copies that were made, in the order in which they were made."""

    def __init__(self, alphabet):
        check_alphabet(alphabet)
        self.alphabet = alphabet
        self._names = (FIRST,)
        self._makings = ()
        self._finds = (None,)

    def copied(self, name, exemplar, hand):
        """Return the family with one more copy that the hand made from the exemplar."""
        check_new(self, name, (exemplar,))
        check_alphabets(self.alphabet, hand.alphabet)
        return self._grown(name, ("copied", exemplar, hand))

    def joined(self, name, one, two, *, most=None, cost=1):
        """Return the family with one more copy that followed one of two exemplars at a time."""
        check_new(self, name, (one, two))
        return self._grown(name, ("joined", one, two, most, cost))

    def conflated(self, name, one, two, *, most=None, cost=1):
        """Return the family with one more copy that sometimes added the reading of `two`."""
        check_new(self, name, (one, two))
        return self._grown(name, ("conflated", one, two, most, cost))

    def corrected(self, name, one, two, *, most=None, cost=1):
        """Return the family with one more copy that sometimes wrote the reading of `two`."""
        check_new(self, name, (one, two))
        return self._grown(name, ("corrected", one, two, most, cost))

    def found(self, name, texts):
        """Return the family in which the text of the copy is also known to be in the set."""
        check_name(self, name)
        check_alphabets(self.alphabet, texts.alphabet)
        before = self.kept(name)
        return self._with_find(name, texts if before is None else before & texts)

    def lost(self, name):
        """Return the family in which nothing is kept of the copy."""
        if self.kept(name) is None:
            raise NotKept(name)
        return self._with_find(name, None)

    def without(self, name):
        """Return the family without this made copy."""
        check_name(self, name)
        if name == FIRST or self.users(name):
            raise StillUsed(name)
        names = [other for other in self._names if other != name]
        makings = [making for other, making in zip(self.made, self._makings) if other != name]
        finds = [texts for other, texts in zip(self._names, self._finds) if other != name]
        return assembled(self.alphabet, names, makings, finds)

    @property
    def names(self):
        """All names in order, with the first text first."""
        return self._names

    @property
    def made(self):
        """The names of the made copies in order."""
        return self._names[1:]

    def making(self, name):
        """Return how the copy was made."""
        for other, making in zip(self.made, self._makings):
            if other == name:
                return making
        raise UnknownCopy(name)

    def kept(self, name):
        """Return the set that is kept of the copy, or None."""
        for other, texts in zip(self._names, self._finds):
            if other == name:
                return texts
        raise UnknownCopy(name)

    def users(self, name):
        """Return the names of the copies that have this name among their exemplars."""
        check_name(self, name)
        return tuple([other for other, making in zip(self.made, self._makings) if name in sources(making)])

    def __iter__(self):
        return iter(self._names)

    def __len__(self):
        return len(self._names)

    def __contains__(self, name):
        return name in self._names

    def __eq__(self, other):
        if not isinstance(other, Family) or self.alphabet != other.alphabet or self._names != other._names:
            return False
        return self._makings == other._makings and self._finds == other._finds

    def _grown(self, name, making):
        return assembled(self.alphabet, self._names + (name,), self._makings + (making,), self._finds + (None,))

    def _with_find(self, name, texts):
        finds = [texts if other == name else kept for other, kept in zip(self._names, self._finds)]
        return assembled(self.alphabet, self._names, self._makings, finds)

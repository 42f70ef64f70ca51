"""Catalogues: which copies there may have been, how they may have been made, and what was found of them."""

from firsthand.errors import BadName, NoWays, TakenName, TooManyCopies, UnknownCopy
from firsthand.families import FIRST, MOST_COPIES, sources
from firsthand.letters import check_alphabet, check_alphabets, is_name
from firsthand.values import frozen


def check_way(alphabet, making, known):
    """Raise the error that forbids this way of making a copy from the known ones."""
    for exemplar in sources(making):
        if exemplar not in known:
            raise UnknownCopy(exemplar)
    if making[0] == "copied":
        check_alphabets(alphabet, making[2].alphabet)


def check_entries(alphabet, entries):
    """Raise the error of the first entry that does not fit."""
    if len(entries) > MOST_COPIES:
        raise TooManyCopies(len(entries))
    known = [FIRST]
    for name, ways in entries:
        if not is_name(name):
            raise BadName(name)
        if name in known:
            raise TakenName(name)
        if not ways:
            raise NoWays(name)
        for making in ways:
            check_way(alphabet, making, known)
        known.append(name)


def check_entry(catalogue, name):
    """Raise UnknownCopy if the catalogue has no entry of this name."""
    if name not in [other for other, ways in catalogue.entries]:
        raise UnknownCopy(name)


def check_finds(alphabet, entries, finds):
    """Raise the error of the first find that does not fit."""
    known = [FIRST] + [name for name, ways in entries]
    for name, texts in finds:
        if name not in known:
            raise UnknownCopy(name)
        check_alphabets(alphabet, texts.alphabet)


class Catalogue:
    """The copies that may have been made, with their ways, and the finds."""

    def __init__(self, alphabet, entries, finds):
        self.alphabet = alphabet
        self.entries = frozen(entries)
        self.finds = frozen(finds)
        check_alphabet(alphabet)
        check_entries(alphabet, self.entries)
        check_finds(alphabet, self.entries, self.finds)

    @property
    def found_copies(self):
        """The names of the copies with a find, in the order of the entries."""
        named = [name for name, texts in self.finds]
        return tuple([name for name, ways in self.entries if name in named])

    @property
    def lost_copies(self):
        """The names of the copies without a find, in the order of the entries."""
        named = [name for name, texts in self.finds]
        return tuple([name for name, ways in self.entries if name not in named])

    def with_find(self, name, texts):
        """Return the catalogue with one more find, the last one."""
        return Catalogue(self.alphabet, self.entries, (*self.finds, (name, texts)))

    def with_way(self, name, making):
        """Return the catalogue in which a copy may also have been made in this way, the last one."""
        check_entry(self, name)
        entries = [(other, (*ways, making) if other == name else ways) for other, ways in self.entries]
        return Catalogue(self.alphabet, entries, self.finds)

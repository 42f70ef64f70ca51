"""Which lost copies must have stood."""

from firsthand.catalogues import check_entry
from firsthand.errors import NoStem
from firsthand.stems import stem_family, stems
from firsthand.walks import least_history


def stands_in(name, stem):
    """Tell whether the copy stands in the stem."""
    return name in [other for other, number in stem]


class Tally:
    """Stems that explain the finds, as far as they are needed to tell how the lost copies stood in all of them."""

    def __init__(self, lost):
        self._lost = lost
        self._noted = []

    def seen(self, name, stands):
        """Tell whether a noted stem is one in which the copy stands, or does not stand."""
        return stands in [stands_in(name, stem) for stem in self._noted]

    def learns_from(self, stem):
        """Tell whether it makes a difference if this stem explains the finds, too."""
        news = [name for name in self._lost if not self.seen(name, stands_in(name, stem))]
        return not self._noted or len(news) > 0

    def note(self, stem):
        """Note a stem that explains the finds."""
        self._noted.append(stem)

    def need_of(self, name):
        """Return how needful a lost copy is."""
        if self.seen(name, True):
            return "may" if self.seen(name, False) else "must"
        return "never"

    def words(self):
        """Return the pairs (name, word) of all lost copies."""
        if not self._noted:
            raise NoStem()
        return tuple([(name, self.need_of(name)) for name in self._lost])


def needs(catalogue):
    """Return the pairs (name, word) of all lost copies."""
    tally = Tally(catalogue.lost_copies)
    for stem in stems(catalogue):
        if tally.learns_from(stem) and least_history(stem_family(catalogue, stem)) is not None:
            tally.note(stem)
    return tally.words()


def first_explaining(catalogue, name, stands):
    """Return the first pair of `explaining` in whose stem the copy stands, or does not stand, or None."""
    check_entry(catalogue, name)
    for stem in stems(catalogue):
        if stands_in(name, stem) == stands:
            history = least_history(stem_family(catalogue, stem))
            if history is not None:
                return stem, history
    return None


def with_copy(catalogue, name):
    """Return the first pair of `explaining` in whose stem the copy stands, or None."""
    return first_explaining(catalogue, name, True)


def without_copy(catalogue, name):
    """Return the first pair of `explaining` in whose stem the copy does not stand, or None."""
    return first_explaining(catalogue, name, False)

"""The errors that the program raises, one class for each kind of failure."""


class CopyError(ValueError):
    """The base class of all errors of the program."""


class BadAlphabet(CopyError):
    """The string is not an alphabet."""

    def __init__(self, alphabet):
        self.alphabet = alphabet


class BadForm(CopyError):
    """A state of a form has the wrong moves."""

    def __init__(self, state):
        self.state = state


class BadText(CopyError):
    """A string is not a text of the alphabet."""

    def __init__(self, index):
        self.index = index


class BadPattern(CopyError):
    """A character cannot stand in a pattern."""

    def __init__(self, index):
        self.index = index


class EmptySet(CopyError):
    """The set has no text."""


class AlphabetsDiffer(CopyError):
    """Two things that are used together have different alphabets."""

    def __init__(self, one, two):
        self.one = one
        self.two = two


class BadFault(CopyError):
    """A value is not a fault for the alphabet."""

    def __init__(self, index):
        self.index = index


class BadRule(CopyError):
    """A rule of a hand does not fit."""

    def __init__(self, index):
        self.index = index


class BadName(CopyError):
    """The string is not a name."""

    def __init__(self, name):
        self.name = name


class TakenName(CopyError):
    """The name is in use."""

    def __init__(self, name):
        self.name = name


class TooManyCopies(CopyError):
    """There would be more copies than are allowed."""

    def __init__(self, count):
        self.count = count


class UnknownCopy(CopyError):
    """There is no copy of this name."""

    def __init__(self, name):
        self.name = name


class NotKept(CopyError):
    """Nothing is kept of the copy."""

    def __init__(self, name):
        self.name = name


class StillUsed(CopyError):
    """The copy cannot be taken away."""

    def __init__(self, name):
        self.name = name


class CannotContract(CopyError):
    """The copy cannot be left out between two others."""

    def __init__(self, name):
        self.name = name


class NothingToUndo(CopyError):
    """The ledger has no deeds."""


class BadHistory(CopyError):
    """The family does not let the history."""

    def __init__(self, place, name):
        self.place = place
        self.name = name


class NoHistory(CopyError):
    """There is no history to look at."""


class NoWays(CopyError):
    """An entry of a catalogue has no way."""

    def __init__(self, name):
        self.name = name


class BadStem(CopyError):
    """The pairs are not a stem of the catalogue."""


class NoStem(CopyError):
    """No stem explains the finds."""


class BadNotation(CopyError):
    """The string is not a written form."""

    def __init__(self, line):
        self.line = line


class NotCopied(CopyError):
    """The copy was not made by a hand from one exemplar."""

    def __init__(self, name):
        self.name = name


class NoChoice(CopyError):
    """No choice of faults explains what is kept."""


class BadSpread(CopyError):
    """The spread is too small for the weights to add up."""

    def __init__(self, least):
        self.least = least


class NoDating(CopyError):
    """The bonds contain a ring."""

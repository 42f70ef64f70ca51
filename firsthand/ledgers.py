"""Ledgers: what became known in the course of time, with trials and suppositions."""

from firsthand.errors import NothingToUndo, StillUsed
from firsthand.values import frozen


def family_after(family, deed):
    """Return the family after a deed; it stands for the method with its name."""
    kind = deed[0]
    if kind == "copied":
        return family.copied(deed[1], deed[2], deed[3])
    if kind == "joined":
        return family.joined(deed[1], deed[2], deed[3], most=deed[4], cost=deed[5])
    if kind == "conflated":
        return family.conflated(deed[1], deed[2], deed[3], most=deed[4], cost=deed[5])
    if kind == "corrected":
        return family.corrected(deed[1], deed[2], deed[3], most=deed[4], cost=deed[5])
    if kind == "found":
        return family.found(deed[1], deed[2])
    if kind == "lost":
        return family.lost(deed[1])
    return family.without(deed[1])


class Ledger:
    """A family with which it began, and the deeds that stand since then."""

    def __init__(self, family):
        self.began = family
        self._stages = ()
        self._blocks = ()

    @property
    def deeds(self):
        """The deeds that stand, in order."""
        return tuple([stage[0] for stage in self._stages])

    @property
    def known(self):
        """The family after the deeds that stand."""
        return self._stages[-1][1] if self._stages else self.began

    @property
    def family(self):
        """The known family with all suppositions that are in force."""
        whole = self.known
        for block in self._blocks:
            if block.in_force:
                whole = whole.found(block.name, block.texts)
        return whole

    def __len__(self):
        return len(self._stages)

    def enter(self, deed):
        """Add a deed."""
        given = frozen(deed)
        after = family_after(self.known, given)
        if given[0] == "without" and self.supposes(given[1]):
            raise StillUsed(given[1])
        self._stages = self._stages + ((given, after),)

    def undo(self):
        """Take back the last deed and return it."""
        if not self._stages:
            raise NothingToUndo()
        deed = self._stages[-1][0]
        if deed[0] in ("copied", "joined", "conflated", "corrected") and self.supposes(deed[1]):
            raise StillUsed(deed[1])
        self._stages = self._stages[:-1]
        return deed

    def supposes(self, name):
        """Tell whether a supposition about the copy is in force."""
        return name in [block.name for block in self._blocks if block.in_force]

    def suppose(self, block):
        """Let the supposition of a block be in force."""
        self._blocks = tuple([other for other in self._blocks if other.in_force] + [block])


class Trial:
    """A block after which the deeds of the ledger are again those that stood before it."""

    def __init__(self, ledger):
        self.ledger = ledger
        self.before = ()

    def __enter__(self):
        self.before = self.ledger._stages
        return self.ledger

    def __exit__(self, kind, value, trace):
        ledger = self.ledger
        ledger._stages = self.before


class Supposing:
    """A block in which it is supposed that the text of a copy is in a set."""

    def __init__(self, ledger, name, texts):
        self.ledger = ledger
        self.name = name
        self.texts = texts
        self.in_force = False

    def __enter__(self):
        # Only for its errors: deeds that are entered later come before the supposition.
        self.ledger.known.found(self.name, self.texts)
        self.in_force = True
        self.ledger.suppose(self)
        return self.ledger

    def __exit__(self, kind, value, trace):
        self.in_force = False


def perform(ledger, steps):
    """Do the steps with the ledger and return what was seen."""
    seen = []
    for step in steps:
        seen.extend(step_done(ledger, step))
    return tuple(seen)


def step_done(ledger, step):
    """Do one step with the ledger and return the list of what was seen."""
    kind = step[0]
    if kind == "enter":
        ledger.enter(step[1])
    elif kind == "undo":
        ledger.undo()
    elif kind == "see":
        return [(ledger.deeds, ledger.family)]
    elif kind == "trial":
        return list(within(Trial(ledger), step[1]))
    else:
        return list(within(Supposing(ledger, step[1], step[2]), step[3]))
    return []


def within(block, steps):
    """Enter the block, do the steps with its ledger and return what was seen."""
    with block as ledger:
        seen = perform(ledger, steps)
    return seen

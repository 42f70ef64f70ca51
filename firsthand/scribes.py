"""What one scribe made, and which of the faults of this scribe are needed for it."""

from firsthand.claims import check_asked
from firsthand.cuttings import check_faults
from firsthand.errors import NotCopied, UnknownCopy
from firsthand.families import assembled
from firsthand.hands import Hand
from firsthand.letters import check_alphabets
from firsthand.values import frozen
from firsthand.walks import least_history


def check_copied(family, names):
    """Raise UnknownCopy for the first name that is no made copy, or else NotCopied for the first meeting."""
    for name in names:
        if name not in family.made:
            raise UnknownCopy(name)
    for name in names:
        if family.making(name)[0] != "copied":
            raise NotCopied(name)


def rehanded(family, names, hand):
    """Return the family in which all these copies were made by this hand."""
    given = frozen(names)
    check_copied(family, given)
    check_alphabets(family.alphabet, hand.alphabet)
    makings = []
    for name in family.made:
        making = family.making(name)
        makings.append((making[0], making[1], hand) if name in given else making)
    return assembled(family.alphabet, family.names, makings, [family.kept(name) for name in family.names])


def check_scribe(family, names, faults, supposed):
    """Raise the error of the names, or else of the faults, or else of the claim that is supposed."""
    check_copied(family, names)
    check_faults(family.alphabet, faults)
    check_asked(family, (), (supposed,))


def family_of_choice(family, names, faults, choice, limit):
    """Return the family in which the scribe had just the faults of the choice."""
    hand = Hand.of_faults(family.alphabet, [faults[index] for index in choice], limit=limit)
    return rehanded(family, names, hand)


def explains(family, names, faults, choice, *, limit=None, supposed=None):
    """Tell whether there is a history to look at if the scribe had just the faults of the choice."""
    kinds = frozen(faults)
    check_scribe(family, names, kinds, supposed)
    return least_history(family_of_choice(family, names, kinds, choice, limit), supposed=supposed) is not None

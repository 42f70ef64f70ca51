"""How a claim fared in the course of time."""

from firsthand.claims import check_claim
from firsthand.errors import AlphabetsDiffer, UnknownCopy
from firsthand.judging import word_of
from firsthand.ledgers import family_after


def word_if_fit(family, claim):
    """Return the word for the claim, or None if it does not fit the family."""
    try:
        check_claim(family, claim)
    except (UnknownCopy, AlphabetsDiffer):
        return None
    return word_of(family, claim, None)


def course(ledger, claim):
    """Yield the word for the claim in the beginning and after each deed that stands, or None where it does not fit."""
    family = ledger.began
    yield word_if_fit(family, claim)
    for deed in ledger.deeds:
        family = family_after(family, deed)
        yield word_if_fit(family, claim)

"""What is the same in all histories looked at."""

from firsthand.claims import Claim, check_asked
from firsthand.errors import NoHistory
from firsthand.graphs import LABEL, Graph
from firsthand.histories import text_of
from firsthand.judging import NO_HISTORY, SURE, word_of
from firsthand.setmaking import exactly
from firsthand.sums import least_rests
from firsthand.walks import least_history


def sure_text(family, name, *, supposed=None):
    """Return the text of the copy if all histories looked at have the same one, otherwise None."""
    check_asked(family, (name,), (supposed,))
    history = least_history(family, supposed=supposed)
    if history is None:
        raise NoHistory()
    text = text_of(family, history, name)
    claim = Claim.lies(name, exactly(family.alphabet, [text]))
    return text if word_of(family, claim, supposed) == SURE else None


def sure_equal(family, one, two, *, supposed=None):
    """Tell whether the blocks of both copies are the same at every place in all histories looked at."""
    check_asked(family, (one, two), (supposed,))
    word = word_of(family, Claim.apart(one, two, 0), supposed)
    if word == NO_HISTORY:
        raise NoHistory()
    return word == SURE


def least_apart(family, one, two, *, supposed=None):
    """Return the least number of places at which both copies differ, or None if it is greater than 9."""
    check_asked(family, (one, two), (supposed,))
    graph = Graph(family, supposed, label=("apart", one, two)).complete()
    rests = least_rests(graph, LABEL)
    if not rests or rests[0] is None:
        raise NoHistory()
    return rests[0] if rests[0] <= 9 else None

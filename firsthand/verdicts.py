"""Verdicts: whether a claim holds in all histories that could have led to what is kept."""

from firsthand.claims import check_asked, joint_claim
from firsthand.judging import NEVER, OPEN, SURE, first_judged, judged, word_for
from firsthand.walks import closes, table_of


class Verdict:
    """The word for a claim, with two histories if it is open and a table if it is not."""

    def __init__(self, word, keeping, breaking, table):
        self.word = word
        self.keeping = keeping
        self.breaking = breaking
        self.table = table


def verdict(family, claim, *, supposed=None):
    """Tell whether the claim is sure, never, open, or without a history to look at."""
    check_asked(family, (), (supposed, claim))
    graph, found = first_judged(family, claim, supposed, (True, False))
    keeping = graph.history_to(found[True]) if True in found else None
    breaking = graph.history_to(found[False]) if False in found else None
    word = word_for(found)
    return Verdict(word, keeping, breaking, () if word == OPEN else tuple(graph.tracks))


def is_verdict_table(family, claim, word, table, *, supposed=None):
    """Tell whether the table of tracks for the joint claim shows the word."""
    check_asked(family, (), (supposed, claim))
    tracks = table_of(table)
    for track in tracks:
        answer = judged(family, claim, supposed, track)
        if word == SURE and answer is False:
            return False
        if word == NEVER and answer is True:
            return False
        if word not in (SURE, NEVER) and answer is not None:
            return False
    return closes(family, joint_claim(claim, supposed), tracks)

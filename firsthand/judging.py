"""Judging: which of the histories looked at keep a claim and which break it."""

from firsthand.claims import joint_claim
from firsthand.graphs import Graph
from firsthand.marks import mark_holds, mark_start
from firsthand.standings import is_end

SURE = "sure"
NEVER = "never"
OPEN = "open"
NO_HISTORY = "no history"


def judged(family, claim, supposed, track):
    """Return whether a history looked at that ends with this track of the joint claim keeps the claim.

    The answer is None if no history looked at may end with it.
    """
    standing, mark = track
    split = len(mark_start(supposed))
    if not is_end(family, standing) or not mark_holds(supposed, mark[:split]):
        return None
    return mark_holds(claim, mark[split:])


def first_judged(family, claim, supposed, wanted):
    """Return the graph of the joint claim and a dict with the first track for each answer of `judged`.

    The search ends as soon as a track was found for each of the wanted answers.
    """
    graph = Graph(family, joint_claim(claim, supposed))
    found = {}
    number = 0
    while number < len(graph.tracks) and [kind for kind in wanted if kind not in found]:
        answer = judged(family, claim, supposed, graph.tracks[number])
        if answer is not None and answer not in found:
            found[answer] = number
        graph.arcs_from(number)
        number += 1
    return graph, found


def word_for(found):
    """Return the word for a dict of the answers that some history gives."""
    if True in found:
        return OPEN if False in found else SURE
    return NEVER if False in found else NO_HISTORY


def word_of(family, claim, supposed):
    """Return the word of the verdict of a claim that fits the family."""
    _, found = first_judged(family, claim, supposed, (True, False))
    return word_for(found)

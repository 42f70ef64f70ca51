"""What would be known if a copy were found."""

from firsthand.claims import check_asked, joint_claim
from firsthand.graphs import Graph
from firsthand.judging import judged
from firsthand.possible import texts_to


def settling(family, name, claim, *, supposed=None):
    """Return the sets of the texts with which the claim would be sure, never and open."""
    check_asked(family, (name,), (supposed, claim))
    graph = Graph(family, joint_claim(claim, supposed), label=("block", name)).complete()
    answers = [judged(family, claim, supposed, track) for track in graph.tracks]
    keeping = texts_to(family.alphabet, graph, {at: True for at, answer in enumerate(answers) if answer is True})
    breaking = texts_to(family.alphabet, graph, {at: True for at, answer in enumerate(answers) if answer is False})
    return keeping - breaking, breaking - keeping, keeping & breaking


def decides(family, name, claim, *, supposed=None):
    """Tell whether a find of the whole text of the copy settles the claim, whatever the text is."""
    return settling(family, name, claim, supposed=supposed)[2].is_empty

"""The written form of sets of texts."""

from firsthand.errors import BadNotation
from firsthand.letters import is_alphabet
from firsthand.notation import check_same, check_single, number_in
from firsthand.textsets import TextSet


def state_note(state):
    """Return the written form of a state."""
    ends, moves = state
    words = ["." if move is None else str(move) for move in moves]
    return ("+" if ends else "-") + ",".join(words)


def format_set(texts):
    """Return the written form of a set."""
    return " ".join([texts.alphabet] + [state_note(state) for state in texts.form])


def state_in(word, width, count):
    """Return the state that is written, of a form with so many states."""
    moves = word[1:].split(",")
    if word[:1] not in ("+", "-") or len(moves) != width:
        raise BadNotation(0)
    return word[0] == "+", tuple([None if move == "." else number_in(move, count - 1) for move in moves])


def set_in(line):
    """Return the set whose written form is the line."""
    words = line.split(" ")
    alphabet = words[0]
    if not is_alphabet(alphabet):
        raise BadNotation(0)
    form = [state_in(word, len(alphabet), len(words) - 1) for word in words[1:]]
    texts = TextSet(alphabet, form)
    # A form that is not least is no written form.
    check_same(line, format_set(texts))
    return texts


def parse_set(string):
    """Return the set whose written form is the string."""
    lines = string.split("\n")
    texts = set_in(lines[0])
    check_single(lines)
    return texts

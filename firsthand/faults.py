"""The kinds of faults: what they read and what they write."""

from firsthand.letters import is_letter, is_text
from firsthand.values import is_whole

SHAPES = {
    "mistake": "letters",
    "turn": "letters",
    "omit": "word",
    "double": "word",
    "merge": "word",
    "gloss": "words",
    "leap": "letter",
}
SIZES = {"letters": 4, "word": 3, "words": 4, "letter": 3}


def is_word(alphabet, value):
    """Tell whether the string is a text of the alphabet with 1 to 3 letters."""
    return len(value) in range(1, 4) and is_text(alphabet, value)


def is_fault(alphabet, value):
    """Tell whether the value is a fault for the alphabet."""
    if len(value) == 0 or value[0] not in SHAPES:
        return False
    shape = SHAPES[value[0]]
    if len(value) != SIZES[shape]:
        return False
    if not is_whole(value[-1]) or value[-1] not in range(1, 100):
        return False
    if shape == "letters":
        return is_letter(alphabet, value[1]) and is_letter(alphabet, value[2]) and value[1] != value[2]
    if shape == "letter":
        return is_letter(alphabet, value[1])
    for word in value[1:-1]:
        if not is_word(alphabet, word):
            return False
    return True


def fixed_reading(fault):
    """Return what a fault other than a leap reads and writes."""
    kind = fault[0]
    if kind == "mistake":
        return (fault[1], fault[2])
    if kind == "omit":
        return (fault[1], "")
    if kind == "double":
        return (fault[1], fault[1] + fault[1])
    if kind == "merge":
        return (fault[1] + fault[1], fault[1])
    if kind == "turn":
        return (fault[1] + fault[2], fault[2] + fault[1])
    return (fault[1], fault[1] + fault[2])


def rewritten(fault, old):
    """Return what the fault writes for the piece, or None if it does not read it."""
    if fault[0] == "leap":
        same = fault[1]
        leaps = len(old) > 1 and old[0] == same and old[-1] == same and same not in old[1:-1]
        return same if leaps else None
    piece, written = fixed_reading(fault)
    return written if old == piece else None

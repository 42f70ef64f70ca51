"""The written form of histories."""

from firsthand.errors import BadNotation
from firsthand.letters import LETTERS, is_letter
from firsthand.notation import LONGEST_BLOCK, block_in, number_in, parts_in
from firsthand.values import frozen, is_whole

MOST_COST = 99
MOST_ENTRIES = 8
SIDES = ("0", "1")


def entry_note(entry):
    """Return the written form of an entry of a column."""
    if is_whole(entry):
        return str(entry)
    return "/".join([f"{block},{cost}" for block, cost in entry]) if entry else "-"


def format_history(history):
    """Return the written form of a history."""
    first, columns = frozen(history)
    lines = [" ".join([letter] + [entry_note(entry) for entry in column]) for letter, column in zip(first, columns)]
    return "\n".join(lines)


def entry_in(word):
    """Return the entry that is written."""
    if word in SIDES:
        return int(word)
    if word == "-":
        return ()
    strokes = [parts_in(stroke, ",", 2) for stroke in word.split("/")]
    return tuple([(block_in(block, LONGEST_BLOCK), number_in(cost, MOST_COST)) for block, cost in strokes])


def place_in(line, width):
    """Return the letter and the column of a line; the column has so many entries, or any number of them for None."""
    words = line.split(" ")
    if not is_letter(LETTERS, words[0]) or len(words) > MOST_ENTRIES + 1 or width not in (None, len(words) - 1):
        raise BadNotation(0)
    return words[0], tuple([entry_in(word) for word in words[1:]])


def parse_history(string):
    """Return the history whose written form is the string."""
    lines = string.split("\n")
    if lines[0] == "":
        if len(lines) > 1:
            raise BadNotation(1)
        return "", ()
    letters = []
    columns = []
    for number, line in enumerate(lines):
        try:
            letter, column = place_in(line, len(columns[0]) if columns else None)
        except BadNotation:
            raise BadNotation(number)
        letters.append(letter)
        columns.append(column)
    return "".join(letters), tuple(columns)

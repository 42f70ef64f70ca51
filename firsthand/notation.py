"""What the written forms have in common.

A function that reads one line raises BadNotation(0) if it is no written form.
"""

from firsthand.errors import BadNotation
from firsthand.letters import DIGITS, LETTERS, is_text

MOST_DIGITS = 9
LONGEST_BLOCK = 36


def number_in(text, most):
    """Return the number that is written, which is at most `most`."""
    if not text or len(text) > MOST_DIGITS or not is_text(DIGITS, text):
        raise BadNotation(0)
    number = int(text)
    if str(number) != text or number > most:
        raise BadNotation(0)
    return number


def block_in(text, longest):
    """Return the block that is written, which has at most `longest` letters of any alphabet."""
    if not is_text(LETTERS, text) or len(text) > longest:
        raise BadNotation(0)
    return text


def parts_in(text, sign, count):
    """Return the parts of a text between the signs; there must be just so many."""
    parts = text.split(sign)
    if len(parts) != count:
        raise BadNotation(0)
    return parts


def check_single(lines):
    """Raise BadNotation if more lines follow the first one."""
    if len(lines) > 1:
        raise BadNotation(1)


def check_same(line, written):
    """Raise BadNotation if the line is not the written form of what was read in it."""
    if line != written:
        raise BadNotation(0)

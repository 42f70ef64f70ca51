"""Letters, alphabets, texts and names."""

from firsthand.errors import AlphabetsDiffer, BadAlphabet

LETTERS = "abcdefghijklmnopqrstuvwxyz"
DIGITS = "0123456789"


def is_alphabet(value):
    """Tell whether the string is an alphabet."""
    if len(value) < 1 or len(value) > 6:
        return False
    for at, letter in enumerate(value):
        if letter not in LETTERS:
            return False
        if at > 0 and value[at - 1] >= letter:
            return False
    return True


def is_name(value):
    """Tell whether the string is a name."""
    if len(value) < 1 or len(value) > 8:
        return False
    if value[0] not in LETTERS:
        return False
    for sign in value:
        if sign not in LETTERS and sign not in DIGITS:
            return False
    return True


def is_text(alphabet, value):
    """Tell whether the string is a text of the alphabet."""
    for letter in value:
        if letter not in alphabet:
            return False
    return True


def is_letter(alphabet, value):
    """Tell whether the string is one letter of the alphabet."""
    return len(value) == 1 and value in alphabet


def text_order(text):
    """Return a value by which texts are sorted in ascending order."""
    return (len(text), text)


def row_order(row):
    """Return a value by which tuples of equally many texts are sorted, text by text."""
    return tuple([text_order(text) for text in row])


def check_alphabet(alphabet):
    """Raise BadAlphabet if the string is not an alphabet."""
    if not is_alphabet(alphabet):
        raise BadAlphabet(alphabet)


def check_alphabets(one, two):
    """Raise AlphabetsDiffer if the alphabets differ."""
    if one != two:
        raise AlphabetsDiffer(one, two)

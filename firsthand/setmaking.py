"""Functions that make sets of texts."""

from firsthand.errors import BadPattern, BadText
from firsthand.letters import check_alphabet, is_letter, is_text
from firsthand.textsets import TextSet


def nothing(alphabet):
    """Return the empty set."""
    return TextSet(alphabet, ())


def everything(alphabet):
    """Return the set of all texts of the alphabet."""
    return TextSet(alphabet, ((True, tuple([0 for letter in alphabet])),))


def exactly(alphabet, texts):
    """Return the set of the given texts."""
    check_alphabet(alphabet)
    for index, text in enumerate(texts):
        if not is_text(alphabet, text):
            raise BadText(index)
    return TextSet(alphabet, tree_form(alphabet, texts))


def tree_form(alphabet, texts):
    """Return a form that has one state for each beginning of a text."""
    rows = [{}]
    ends = {}
    for text in texts:
        state = 0
        for letter in text:
            if letter not in rows[state]:
                rows[state][letter] = len(rows)
                rows.append({})
            state = rows[state][letter]
        ends[state] = True
    return [(state in ends, [row.get(letter) for letter in alphabet]) for state, row in enumerate(rows)]


def torn(alphabet, pattern):
    """Return the set of what a torn page may have said."""
    check_alphabet(alphabet)
    for index, sign in enumerate(pattern):
        if sign not in "?*" and not is_letter(alphabet, sign):
            raise BadPattern(index)
    return TextSet(alphabet, pattern_form(alphabet, pattern))


def containing(alphabet, word):
    """Return the set of all texts in which the word stands somewhere."""
    check_alphabet(alphabet)
    if not is_text(alphabet, word):
        raise BadText(0)
    return TextSet(alphabet, pattern_form(alphabet, "*" + word + "*"))


def pattern_form(alphabet, pattern):
    """Return a form for the texts that fit the pattern.

    A state is a number whose bit `at` tells whether the text so far fits the
    first `at` signs of the pattern.
    """
    stars = [at for at, sign in enumerate(pattern) if sign == "*"]
    star_bits = bits_of(stars)
    fits = []
    for letter in alphabet:
        fits.append(bits_of([at for at, sign in enumerate(pattern) if sign in ("?", letter)]))
    start = settled(1, stars)
    numbers = {start: 0}
    order = [start]
    states = []
    while len(states) < len(order):
        held = order[len(states)]
        moves = []
        for fit in fits:
            after = settled(((held & fit) << 1) | (held & star_bits), stars)
            if after != 0 and after not in numbers:
                numbers[after] = len(order)
                order.append(after)
            moves.append(numbers.get(after))
        states.append(((held >> len(pattern)) & 1 == 1, moves))
    return states


def bits_of(places):
    """Return the number in which the bits at these places are set."""
    bits = 0
    for place in places:
        bits = bits | (1 << place)
    return bits


def settled(held, stars):
    """Return the state after stars that stand for nothing more.

    Whatever fits from an earlier sign also fits from the last star that was
    reached, so the bits before this star are dropped.
    """
    bits = held
    last = 0
    for place in stars:
        if (bits >> place) & 1 == 1:
            bits = bits | (1 << (place + 1))
            last = place
    return (bits >> last) << last


def counting(alphabet, letter, rest, modulus):
    """Return the set of the texts in which the number of the letter has this remainder."""
    check_alphabet(alphabet)
    states = []
    for count in range(modulus):
        after = (count + 1) % modulus
        states.append((count == rest, [after if sign == letter else count for sign in alphabet]))
    return TextSet(alphabet, states)


def lengths(alphabet, least, most):
    """Return the set of all texts with at least `least` and at most `most` letters."""
    check_alphabet(alphabet)
    longest = least if most is None else most
    states = []
    for length in range(longest + 1):
        after = length + 1 if length < longest else None
        if length == longest and most is None:
            after = length
        states.append((length >= least, [after for letter in alphabet]))
    return TextSet(alphabet, states)

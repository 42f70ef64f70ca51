"""What all texts of a set share."""

from firsthand.errors import EmptySet
from firsthand.machines import reached_from


def check_not_empty(texts):
    """Raise EmptySet if the set has no text."""
    if texts.is_empty:
        raise EmptySet()


def ways_on(texts, states):
    """Return a dict from the letters with which the states go on to dicts of the next states."""
    found = {}
    for state in states:
        for letter, move in zip(texts.alphabet, texts.form[state][1]):
            if move is not None:
                if letter not in found:
                    found[letter] = {}
                found[letter][move] = True
    return found


def ways_back(texts, states):
    """Return a dict from the letters that lead to the states to dicts of the states before."""
    found = {}
    for state, row in enumerate(texts.form):
        for letter, move in zip(texts.alphabet, row[1]):
            if move in states:
                if letter not in found:
                    found[letter] = {}
                found[letter][state] = True
    return found


def sure_beginning(texts):
    """Return the longest text with which every text of the set begins."""
    check_not_empty(texts)
    letters = []
    state = 0
    while not texts.form[state][0]:
        found = ways_on(texts, [state])
        if len(found) > 1:
            break
        for letter in found:
            letters.append(letter)
            state = list(found[letter])[0]
    return "".join(letters)


def sure_ending(texts):
    """Return the longest text with which every text of the set ends."""
    check_not_empty(texts)
    letters = []
    states = {state: True for state, row in enumerate(texts.form) if row[0]}
    while 0 not in states:
        found = ways_back(texts, states)
        if len(found) > 1:
            break
        for letter in found:
            letters.append(letter)
            states = found[letter]
    return "".join(reversed(letters))


def sure_letters(texts):
    """Return all letters that occur in every text, in ascending order."""
    check_not_empty(texts)
    found = []
    for index, letter in enumerate(texts.alphabet):
        others = []
        for row in texts.form:
            others.append([move for at, move in enumerate(row[1]) if at != index and move is not None])
        ends = [state for state in reached_from([0], others) if texts.form[state][0]]
        if not ends:
            found.append(letter)
    return "".join(found)


def sure_at(texts, index):
    """Return the letter that every text has at this index, or None."""
    check_not_empty(texts)
    states = {0: True}
    for _ in range(index):
        if has_end(texts, states):
            return None
        states = next_states(texts, states)
    found = ways_on(texts, list(states))
    if has_end(texts, states) or len(found) != 1:
        return None
    return list(found)[0]


def has_end(texts, states):
    """Tell whether a text may end in one of the states."""
    return True in [texts.form[state][0] for state in states]


def next_states(texts, states):
    """Return a dict of the states to which one letter leads."""
    found = {}
    for state in states:
        for move in texts.form[state][1]:
            if move is not None:
                found[move] = True
    return found

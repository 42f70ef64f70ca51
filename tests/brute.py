"""Slow and simple ways to the answers, and arguments made up for the tests."""

import itertools
import random

ALPHABET = "abcdef"


def all_texts(alphabet, longest):
    """All texts with at most so many letters, in the order of texts."""
    found = []
    for length in range(longest + 1):
        found.extend("".join(letters) for letters in itertools.product(alphabet, repeat=length))
    return found


def read_form(form, alphabet, text, state=0):
    """The state after the text, or None."""
    if not form:
        return None
    for letter in text:
        if letter not in alphabet:
            return None
        state = form[state][1][alphabet.index(letter)]
        if state is None:
            return None
    return state


def accepts(form, alphabet, text):
    state = read_form(form, alphabet, text)
    return state is not None and form[state][0]


def random_form(rand, width, most=6, gaps=0.4):
    count = rand.randint(0, most)
    states = []
    for _ in range(count):
        moves = tuple(None if rand.random() < gaps else rand.randrange(count) for _ in range(width))
        states.append((rand.random() < 0.4, moves))
    return tuple(states)


def random_sets(seed, count, most=5, widths=(1, 2, 3)):
    """Pairs (alphabet, form), the same ones for each seed."""
    rand = random.Random(seed)
    found = []
    for _ in range(count):
        width = rand.choice(widths)
        found.append((ALPHABET[:width], random_form(rand, width, most)))
    return found


def lists_of(value):
    """The value with lists instead of tuples at every level."""
    if isinstance(value, (list, tuple)):
        return [lists_of(item) for item in value]
    return value


def only_tuples(value):
    """Whether no list stands at any level."""
    if isinstance(value, list):
        return False
    if isinstance(value, tuple):
        return all(only_tuples(item) for item in value)
    return True


def random_rules(rand, alphabet, states=3, rules=6, longest=2, costs=(0, 0, 1, 2)):
    """Rules and ends for a hand; each state has at most one rule for a stroke."""
    found = {}
    for _ in range(rules):
        block = "".join(rand.choice(alphabet) for _ in range(rand.randint(0, longest)))
        key = (rand.randrange(states), rand.choice(alphabet), block, rand.choice(costs))
        found[key] = rand.randrange(states)
    ends = [state for state in range(states) if rand.random() < 0.6]
    return [(*key, after) for key, after in found.items()], ends


def stroke_key(stroke):
    return (stroke[0], len(stroke[1]), stroke[1], stroke[2])


def row_key(row):
    return (len(row), [stroke_key(stroke) for stroke in row])


def rows_of(rules, ends, longest):
    """All rows with at most so many strokes that the rules let, in the order of rows."""
    found = []
    here = [((), 0)]
    for length in range(longest + 1):
        found.extend(row for row, state in here if state in ends)
        after = []
        for row, state in here:
            for rule in dict.fromkeys(map(tuple, rules)):
                if rule[0] == state:
                    after.append(((*row, rule[1:4]), rule[4]))
        here = after
    return sorted(found, key=row_key)


def exemplar_of(row):
    return "".join(stroke[0] for stroke in row)


def copy_of(row):
    return "".join(stroke[1] for stroke in row)

"""Whether one set of texts is inside another, with a table that shows it."""

from firsthand.letters import check_alphabets
from firsthand.values import frozen


class Inclusion:
    """Whether one set is inside another: the table that shows it, or a text that shows the contrary."""

    def __init__(self, inside, text, table):
        self.inside = inside
        self.text = text
        self.table = table


def start_pair(one, two):
    """Return the pair of the empty text."""
    return (None if one.is_empty else 0, None if two.is_empty else 0)


def next_pairs(one, two, pair):
    """Return the pairs (letter, pair) with which a pair goes on, in ascending order of letters."""
    found = []
    for letter in one.alphabet:
        after = (one.state_from(pair[0], letter), two.state_from(pair[1], letter))
        if after[0] is not None:
            found.append((letter, after))
    return found


def is_broken(one, two, pair):
    """Tell whether a text with this pair is in `one` but not in `two`."""
    return one.ends_in(pair[0]) and not two.ends_in(pair[1])


def text_to(came, pair):
    """Return the text by which the search came to the pair."""
    letters = []
    here = pair
    while came[here] is not None:
        letter, here = came[here]
        letters.append(letter)
    return "".join(reversed(letters))


def include(one, two):
    """Tell whether every text of `one` is in `two`."""
    check_alphabets(one.alphabet, two.alphabet)
    if one.is_empty:
        return Inclusion(True, None, ())
    came = {start_pair(one, two): None}
    order = list(came)
    done = 0
    while done < len(order):
        pair = order[done]
        if is_broken(one, two, pair):
            return Inclusion(False, text_to(came, pair), ())
        for letter, after in next_pairs(one, two, pair):
            if after not in came:
                came[after] = (letter, pair)
                order.append(after)
        done += 1
    return Inclusion(True, None, tuple(order))


def is_inclusion_table(one, two, table):
    """Tell whether the table shows that every text of `one` is in `two`."""
    check_alphabets(one.alphabet, two.alphabet)
    pairs = {pair: True for pair in frozen(table)}
    if not one.is_empty and start_pair(one, two) not in pairs:
        return False
    for pair in pairs:
        if is_broken(one, two, pair):
            return False
        for letter, after in next_pairs(one, two, pair):
            if after not in pairs:
                return False
    return True

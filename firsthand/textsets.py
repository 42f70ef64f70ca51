"""Sets of texts of one alphabet, finite or infinite."""

from firsthand.determining import determined
from firsthand.forms import check_form, form_machine, least_form, machine_form
from firsthand.letters import check_alphabet, check_alphabets
from firsthand.machines import paired
from firsthand.values import frozen


def merged_form(one, two, kind, width):
    """Return a form for the texts of both, of one or two, or of one but not two."""
    return machine_form(paired(form_machine(one), form_machine(two), kind), width)


def followed_form(one, two, width):
    """Return a form for a text of `one` followed by a text of `two`."""
    if not one or not two:
        return ()
    first_ends, first_rows = form_machine(one)
    then_ends, then_rows = form_machine(two)
    shift = len(one)
    arcs = []
    for stops, row in zip(first_ends, first_rows):
        pairs = [(index, row[index]) for index in row]
        if stops:
            pairs.append((None, shift))
        arcs.append(pairs)
    for row in then_rows:
        arcs.append([(index, row[index] + shift) for index in row])
    ends = [False for state in one] + list(then_ends)
    return machine_form(determined((ends, arcs)), width)


def other_form(form, width):
    """Return a form for all texts that the form does not accept."""
    sink = len(form)
    states = []
    for stops, moves in form:
        states.append((not stops, tuple([sink if move is None else move for move in moves])))
    states.append((True, tuple([sink for _ in range(width)])))
    return tuple(states)


class TextSet:
    """The set of all texts that a form accepts."""

    def __init__(self, alphabet, form):
        check_alphabet(alphabet)
        states = frozen(form)
        check_form(states, len(alphabet))
        self.alphabet = alphabet
        self.form = least_form(states, width=len(alphabet))

    @property
    def is_empty(self):
        """Tell whether the set has no text."""
        return len(self.form) == 0

    def state_after(self, text):
        """Return the state in which reading the text ends, or None."""
        return self.state_from(None if self.is_empty else 0, text)

    def state_from(self, state, text):
        """Return the state in which reading the text from this state ends, or None."""
        here = state
        for letter in text:
            index = self.alphabet.find(letter)
            if here is None or index < 0:
                return None
            here = self.form[here][1][index]
        return here

    def ends_in(self, state):
        """Tell whether a text may end in this state, which may be None."""
        return state is not None and self.form[state][0]

    def __contains__(self, value):
        return self.ends_in(self.state_after(value))

    def __eq__(self, other):
        return isinstance(other, TextSet) and self.alphabet == other.alphabet and self.form == other.form

    def __or__(self, other):
        check_alphabets(self.alphabet, other.alphabet)
        return TextSet(self.alphabet, merged_form(self.form, other.form, "or", len(self.alphabet)))

    def __and__(self, other):
        check_alphabets(self.alphabet, other.alphabet)
        return TextSet(self.alphabet, merged_form(self.form, other.form, "and", len(self.alphabet)))

    def __sub__(self, other):
        check_alphabets(self.alphabet, other.alphabet)
        return TextSet(self.alphabet, merged_form(self.form, other.form, "less", len(self.alphabet)))

    def __add__(self, other):
        check_alphabets(self.alphabet, other.alphabet)
        return TextSet(self.alphabet, followed_form(self.form, other.form, len(self.alphabet)))

    def __invert__(self):
        return TextSet(self.alphabet, other_form(self.form, len(self.alphabet)))

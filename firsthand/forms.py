"""Forms: the states and moves that describe a set of texts."""

from firsthand.errors import BadForm
from firsthand.machines import least_machine
from firsthand.values import frozen, is_whole


def form_machine(form):
    """Return the machine of a form; its labels are the indexes of the letters."""
    ends = [state[0] for state in form]
    rows = []
    for state in form:
        rows.append({index: move for index, move in enumerate(state[1]) if move is not None})
    return ends, rows


def machine_form(machine, width):
    """Return the form of a machine whose labels are indexes of letters."""
    ends, rows = machine
    states = []
    for stops, row in zip(ends, rows):
        states.append((stops, tuple([row.get(index) for index in range(width)])))
    return tuple(states)


def least_form(form, *, width):
    """Return the least form that accepts the same texts."""
    return machine_form(least_machine(form_machine(frozen(form))), width)


def is_move(move, count):
    """Tell whether a move is None or the number of one of so many states."""
    if move is None:
        return True
    return is_whole(move) and move in range(count)


def check_form(form, width):
    """Raise BadForm for the first state with wrong moves."""
    for number, state in enumerate(form):
        if len(state[1]) != width:
            raise BadForm(number)
        for move in state[1]:
            if not is_move(move, len(form)):
                raise BadForm(number)

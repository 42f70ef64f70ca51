"""Cuttings of an exemplar: where the faults of a hand may have happened."""

from firsthand.errors import BadFault
from firsthand.faults import fixed_reading, is_fault, rewritten
from firsthand.values import frozen


def check_faults(alphabet, faults):
    """Raise BadFault for the first value that is not a fault for the alphabet."""
    for index, fault in enumerate(faults):
        if not is_fault(alphabet, fault):
            raise BadFault(index)


def piece_at(fault, exemplar, start):
    """Return the piece that the fault reads from this place on, or None."""
    if fault[0] == "leap":
        stop = exemplar.find(fault[1], start + 1)
        if exemplar[start] != fault[1] or stop < 0:
            return None
        return exemplar[start:stop + 1]
    piece = fixed_reading(fault)[0]
    return piece if exemplar[start:].startswith(piece) else None


def next_pairs(faults, exemplar, start, may_slip):
    """Return the pairs with which a cutting may go on from this place, in order."""
    pairs = [(exemplar[start], None)]
    if may_slip:
        for number, fault in enumerate(faults):
            piece = piece_at(fault, exemplar, start)
            if piece is not None:
                pairs.append((piece, number))
    return pairs


def cuttings(alphabet, faults, exemplar, *, limit=None):
    """Yield all cuttings of the exemplar with at most `limit` slips, in order."""
    kinds = frozen(faults)
    check_faults(alphabet, kinds)
    work = [((), 0, 0)]
    while work:
        cutting, start, slips = work.pop()
        if start == len(exemplar):
            yield cutting
        else:
            pairs = next_pairs(kinds, exemplar, start, limit is None or slips < limit)
            for old, number in reversed(pairs):
                count = slips if number is None else slips + 1
                work.append(((*cutting, (old, number)), start + len(old), count))


def cutting_copy(faults, cutting):
    """Return the copy of a cutting."""
    return "".join([old if number is None else rewritten(faults[number], old) for old, number in cutting])


def cutting_cost(faults, cutting):
    """Return the sum of the costs of the faults of a cutting."""
    return sum([faults[number][-1] for old, number in cutting if number is not None])


def cutting_row(faults, cutting):
    """Return the row of a cutting."""
    row = []
    for old, number in cutting:
        if number is None:
            row.append((old, old, 0))
        else:
            row.extend([(letter, "", 0) for letter in old[:-1]])
            row.append((old[-1], rewritten(faults[number], old), faults[number][-1]))
    return tuple(row)

"""Strokes and rows: what a hand writes for the letters of its exemplar."""


def stroke_order(stroke):
    """Return a value by which strokes are sorted in their order."""
    letter, block, cost = stroke
    return (letter, len(block), block, cost)


def ordered_stroke(order):
    """Return the stroke from the value by which it is sorted."""
    letter, _, block, cost = order
    return (letter, block, cost)


def row_exemplar(row):
    """Return the text of the letters."""
    return "".join([stroke[0] for stroke in row])


def row_copy(row):
    """Return the text of all blocks."""
    return "".join([stroke[1] for stroke in row])


def row_cost(row):
    """Return the sum of the costs."""
    return sum([stroke[2] for stroke in row])


def is_slip(stroke):
    """Tell whether the stroke is a slip."""
    return stroke[2] >= 1


def row_slips(row):
    """Return the number of strokes that are slips."""
    return len([stroke for stroke in row if is_slip(stroke)])

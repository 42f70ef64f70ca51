"""Linear equations, solved without rounding.

The equation of an unknown is a triple (scale, base, parts): `scale` times the
unknown is `base` plus the sum of other unknowns, each of them times its part.
`parts` is a dict from the numbers of the other unknowns to their parts. All
these numbers are whole and none is negative, and the parts of an equation are
together less than its scale. Then there is just one solution.
"""

from math import gcd

from firsthand.determining import nodes_before
from firsthand.sums import ring_numbers


def lessened(scale, base, parts):
    """Return the equation divided by what all its numbers have in common."""
    common = gcd(scale, base)
    for number in parts:
        if common > 1:
            common = gcd(common, parts[number])
    if common == 1:
        return scale, base, parts
    return scale // common, base // common, {number: parts[number] // common for number in parts}


def freed(equation, number):
    """Return the equation of an unknown without this unknown among its parts."""
    scale, base, parts = equation
    if number not in parts:
        return equation
    return lessened(scale - parts[number], base, {other: parts[other] for other in parts if other != number})


def replaced(equation, number, other):
    """Return the equation with an unknown replaced by what the other equation says of it."""
    scale, base, parts = equation
    times = parts[number]
    more, rest, others = other
    found = {at: parts[at] * more for at in parts if at != number}
    for at in others:
        found[at] = found.get(at, 0) + times * others[at]
    return lessened(scale * more, base * more + times * rest, found)


def users_of(equations, group):
    """Return for each unknown of a group a dict of those of the group that have it among their parts."""
    found = {number: {} for number in group}
    for number in group:
        for other in equations[number][2]:
            if other in found:
                found[other][number] = True
    return found


def easiest(left, equations, users):
    """Return the unknown that makes the fewest new parts if it is replaced."""
    work = [(len(users[number]) * len(equations[number][2]), number) for number in left]
    return min(work)[1]


def solve_group(equations, group, solved):
    """Solve the unknowns of a group; the dict `solved` has all others on which they depend, as (scale, base, {})."""
    here = {}
    for number in group:
        here[number] = equations[number]
        for other in equations[number][2]:
            if other in solved:
                here[number] = replaced(here[number], other, solved[other])
    users = users_of(here, group)
    left = {number: True for number in group}
    order = []
    while left:
        number = easiest(left, here, users)
        del left[number]
        order.append(number)
        here[number] = freed(here[number], number)
        waiting = [user for user in users[number] if user in left]
        for user in waiting:
            here[user] = replaced(here[user], number, here[number])
            for other in here[number][2]:
                users[other][user] = True
    for number in reversed(order):
        found = here[number]
        for other in list(found[2]):
            found = replaced(found, other, solved[other])
        solved[number] = lessened(found[0], found[1], {})


def solution(equations):
    """Return for each unknown its fraction; there is a list with one equation for each of them."""
    arcs = [[(None, other) for other in parts] for scale, base, parts in equations]
    numbers = ring_numbers([[other for _, other in row] for row in arcs], nodes_before(arcs))
    groups = {}
    for number, ring in enumerate(numbers):
        groups.setdefault(ring, []).append(number)
    solved = {}
    for ring in sorted(list(groups), reverse=True):
        solve_group(equations, groups[ring], solved)
    return [(solved[number][1], solved[number][0]) for number in range(len(equations))]

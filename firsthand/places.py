"""What happens at one place of a history: the makings of all copies, one after the other.

A standing is a pair (makers, kept). `makers` has the state of the hand of each
copied copy and a pair (last, used) for each meeting: the side of the last place
of a joined copy, and the number of slips if they are bounded. `kept` has for
each name the state of the set that is kept, or None if nothing is kept.
"""

from firsthand.errors import BadHistory
from firsthand.families import FIRST


def begun(family):
    """Return the standing before the first place; an empty set that is kept has the state None."""
    makers = [0 if family.making(name)[0] == "copied" else (None, 0) for name in family.made]
    kept = []
    for name in family.names:
        texts = family.kept(name)
        kept.append(None if texts is None or texts.is_empty else 0)
    return tuple(makers), tuple(kept)


def hand_wrote(hand, state, read, entry):
    """Return the block, the cost and the next state of a hand, or None if it lets no such strokes."""
    if len(read) != len(entry):
        return None
    written = []
    total = 0
    here = state
    for letter, (block, cost) in zip(read, entry):
        here = hand.state_from(here, (letter, block, cost))
        if here is None:
            return None
        written.append(block)
        total += cost
    return "".join(written), total, here


def entry_slips(making, maker, entry):
    """Return the number of slips of an entry with which a copy goes on from this maker."""
    if making[0] == "copied":
        return len([cost for block, cost in entry if cost >= 1])
    if making[0] == "joined":
        return 0 if maker[0] is None or maker[0] == entry else 1
    return entry


def sides_met(making, left, right, maker, side):
    """Return the block, the cost and the next pair (last, used) of a meeting, or None if it has no such side."""
    kind = making[0]
    most = making[3]
    if side not in (0, 1):
        return None
    if kind != "joined" and side == 1 and left == right:
        return None
    used = maker[1]
    slips = entry_slips(making, maker, side)
    if most is not None and used + slips > most:
        return None
    block = right if side == 1 else left
    if kind == "conflated" and side == 1:
        block = left + right
    after = (side if kind == "joined" else None, 0 if most is None else used + slips)
    return block, slips * making[4], after


def read_further(hand, ways, letter):
    """Return the ways (entry, block, cost, state) after one more letter was read, in order."""
    found = []
    for entry, block, cost, state in ways:
        for rule in hand.rules_for(state, letter):
            found.append(((*entry, (rule[2], rule[3])), block + rule[2], cost + rule[3], rule[4]))
    return found


def ways_of(making, maker, left, right):
    """Return (entry, block, cost, maker) for all that a copy can do where its exemplars have these blocks, in order."""
    if making[0] == "copied":
        ways = [((), "", 0, maker)]
        for letter in left:
            ways = read_further(making[2], ways, letter)
        return ways
    met = [(side, sides_met(making, left, right, maker, side)) for side in range(2)]
    return [(side, *made) for side, made in met if made is not None]


def made_at(making, found, maker, entry):
    """Return the block, the cost and the next maker of a copy, or None if the entry is not let.

    `found` has the blocks of the copies before it at this place.
    """
    if making[0] == "copied":
        return hand_wrote(making[2], maker, found[making[1]], entry)
    return sides_met(making, found[making[1]], found[making[2]], maker, entry)


def place_done(family, standing, place, letter, column):
    """Return the blocks, the cost and the standing after one more place, or raise BadHistory."""
    makers, states = standing
    found = {}
    makers_after = []
    states_after = []
    total = 0
    for at, name in enumerate(family.names):
        if name == FIRST:
            if letter not in family.alphabet:
                raise BadHistory(place, name)
            found[name] = letter
        else:
            made = made_at(family.making(name), found, makers[at - 1], column[at - 1])
            if made is None:
                raise BadHistory(place, name)
            found[name], cost, after = made
            makers_after.append(after)
            total += cost
        texts = family.kept(name)
        state = None if texts is None else texts.state_from(states[at], found[name])
        if texts is not None and state is None:
            raise BadHistory(place, name)
        states_after.append(state)
    return tuple([found[name] for name in family.names]), total, (tuple(makers_after), tuple(states_after))


def column_slips(family, standing, column):
    """Return for each name the number of its slips at the next place; the first text has none."""
    slips = [0]
    for name, maker, entry in zip(family.made, standing[0], column):
        slips.append(entry_slips(family.making(name), maker, entry))
    return tuple(slips)


def check_end(family, standing, place):
    """Raise BadHistory for the first name with which no history may end here."""
    makers, states = standing
    for at, name in enumerate(family.names):
        if name != FIRST:
            making = family.making(name)
            if making[0] == "copied" and not making[2].may_stop(makers[at - 1]):
                raise BadHistory(place, name)
        texts = family.kept(name)
        if texts is not None and not texts.ends_in(states[at]):
            raise BadHistory(place, name)

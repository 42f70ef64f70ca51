"""Hands: machines that read an exemplar letter by letter and write a copy."""

from firsthand.cuttings import check_faults
from firsthand.determining import determined
from firsthand.errors import BadRule
from firsthand.faults import fixed_reading
from firsthand.letters import check_alphabet, check_alphabets, is_letter, is_text
from firsthand.machines import least_machine, paired
from firsthand.strokes import is_slip, ordered_stroke, stroke_order
from firsthand.values import frozen


def rule_order(rule):
    """Return a value by which rules are sorted by state and then by stroke."""
    return (rule[0], stroke_order(rule[1:4]))


def moves_of(alphabet, rules):
    """Return a dict from states to dicts from strokes to next states, or raise BadRule."""
    moves = {}
    for index, (state, letter, block, cost, after) in enumerate(rules):
        if not is_letter(alphabet, letter) or not is_text(alphabet, block):
            raise BadRule(index)
        if state not in moves:
            moves[state] = {}
        stroke = (letter, block, cost)
        if stroke in moves[state] and moves[state][stroke] != after:
            raise BadRule(index)
        moves[state][stroke] = after
    return moves


def rules_by_letter(rules):
    """Return a dict from pairs (state, letter) to the rules for them, in order."""
    found = {}
    for rule in rules:
        found.setdefault((rule[0], rule[1]), []).append(rule)
    return found


def hand_machine(hand):
    """Return the machine of a hand; its labels are the orders of the strokes."""
    states = {0: True}
    for rule in hand.rules:
        states[rule[0]] = True
        states[rule[4]] = True
    for state in hand.ends:
        states[state] = True
    order = sorted(states)
    numbers = {state: number for number, state in enumerate(order)}
    rows = []
    for state in order:
        moves = hand.moves_from(state)
        rows.append({stroke_order(stroke): numbers[moves[stroke]] for stroke in moves})
    return [hand.may_stop(state) for state in order], rows


def least_parts(machine):
    """Return the rules and the ends of the least hand that lets what the machine accepts."""
    ends, rows = least_machine(machine)
    rules = []
    for state, row in enumerate(rows):
        for order in row:
            letter, block, cost = ordered_stroke(order)
            rules.append((state, letter, block, cost, row[order]))
    return tuple(rules), tuple([state for state in range(len(ends)) if ends[state]])


def limited_machine(machine, most):
    """Return a machine that accepts the rows of the machine with at most `most` slips."""
    ends, rows = machine
    numbers = {(0, 0): 0}
    order = [(0, 0)]
    fresh = []
    while len(fresh) < len(order):
        state, slips = order[len(fresh)]
        moves = {}
        for label in rows[state]:
            count = slips + 1 if is_slip(ordered_stroke(label)) else slips
            after = (rows[state][label], count)
            if count <= most:
                if after not in numbers:
                    numbers[after] = len(order)
                    order.append(after)
                moves[label] = numbers[after]
        fresh.append(moves)
    return [ends[state] for state, slips in order], fresh


def fault_net(alphabet, faults):
    """Return the net of the rows of all cuttings. Its node 0 is where a pair begins."""
    arcs = [[(stroke_order((letter, letter, 0)), 0) for letter in alphabet]]
    for fault in faults:
        node = 0
        if fault[0] == "leap":
            piece, written = (fault[1] + fault[1], fault[1])
            skipped = [letter for letter in alphabet if letter != fault[1]]
        else:
            piece, written = fixed_reading(fault)
            skipped = []
        for letter in piece[:-1]:
            arcs[node].append((stroke_order((letter, "", 0)), len(arcs)))
            node = len(arcs)
            arcs.append([(stroke_order((other, "", 0)), node) for other in skipped])
        arcs[node].append((stroke_order((piece[-1], written, fault[-1])), 0))
    return [node == 0 for node in range(len(arcs))], arcs


def written_further(hand, ways, letter):
    """Return the triples (copy, cost, state) after one more letter was read, each once."""
    found = {}
    for copy, cost, state in ways:
        for rule in hand.rules_for(state, letter):
            found[(copy + rule[2], cost + rule[3], rule[4])] = True
    return list(found)


def writings(hand, state, text):
    """Return triples (copy, cost, state) for all ways in which the hand reads the text, each once."""
    ways = [("", 0, state)]
    for letter in text:
        ways = written_further(hand, ways, letter)
    return ways


def joined_net(one, two):
    """Return the net of the joined rows. Its nodes are pairs of states of both hands."""
    numbers = {(0, 0): 0}
    order = [(0, 0)]
    arcs = []
    while len(arcs) < len(order):
        left, right = order[len(arcs)]
        moves = one.moves_from(left)
        row = []
        for letter, block, cost in moves:
            for copy, paid, after in writings(two, right, block):
                pair = (moves[(letter, block, cost)], after)
                if pair not in numbers:
                    numbers[pair] = len(order)
                    order.append(pair)
                row.append((stroke_order((letter, copy, cost + paid)), numbers[pair]))
        arcs.append(row)
    return [one.may_stop(left) and two.may_stop(right) for left, right in order], arcs


class Hand:
    """A machine that reads its exemplar letter by letter."""

    def __init__(self, alphabet, rules, ends):
        check_alphabet(alphabet)
        given = frozen(rules)
        self._moves = moves_of(alphabet, given)
        self.alphabet = alphabet
        self.rules = tuple(sorted(list({rule: True for rule in given}), key=rule_order))
        self._by_letter = rules_by_letter(self.rules)
        self._stops = {state: True for state in ends}
        self.ends = tuple(sorted(list(self._stops)))

    @classmethod
    def faithful(cls, alphabet):
        """Return the hand that copies every letter as it is."""
        check_alphabet(alphabet)
        return cls(alphabet, [(0, letter, letter, 0, 0) for letter in alphabet], (0,))

    @classmethod
    def of_faults(cls, alphabet, faults, *, limit=None):
        """Return the hand that lets the rows of all cuttings with at most `limit` slips."""
        check_alphabet(alphabet)
        kinds = frozen(faults)
        check_faults(alphabet, kinds)
        machine = determined(fault_net(alphabet, kinds))
        if limit is not None:
            # A slip of a cutting gives just one stroke that costs anything.
            machine = limited_machine(machine, limit)
        rules, ends = least_parts(machine)
        return cls(alphabet, rules, ends)

    def limited(self, most):
        """Return the hand that lets the rows of this hand with at most `most` slips."""
        rules, ends = least_parts(limited_machine(hand_machine(self), most))
        return Hand(self.alphabet, rules, ends)

    @property
    def strokes(self):
        """The strokes of all rules, each once, in order."""
        orders = {stroke_order(rule[1:4]): True for rule in self.rules}
        return tuple([ordered_stroke(order) for order in sorted(orders)])

    def state_after(self, row):
        """Return the state in which the hand is after the row, or None."""
        state = 0
        for stroke in frozen(row):
            state = self.state_from(state, stroke)
        return state

    def state_from(self, state, stroke):
        """Return the state to which the stroke leads from a state, which may be None."""
        return self.moves_from(state).get(stroke)

    def moves_from(self, state):
        """Return a dict from the strokes that a state lets to the next states; None lets none."""
        return self._moves.get(state, {})

    def rules_for(self, state, letter):
        """Return the rules of a state for a letter, in the order of their strokes."""
        return self._by_letter.get((state, letter), [])

    def may_stop(self, state):
        """Tell whether the hand may stop in the state, which may be None."""
        return state in self._stops

    def lets(self, row):
        """Tell whether the hand lets the row."""
        return self.may_stop(self.state_after(row))

    def __eq__(self, other):
        if not isinstance(other, Hand) or self.alphabet != other.alphabet:
            return False
        return least_parts(hand_machine(self)) == least_parts(hand_machine(other))

    def __or__(self, other):
        check_alphabets(self.alphabet, other.alphabet)
        rules, ends = least_parts(paired(hand_machine(self), hand_machine(other), "or"))
        return Hand(self.alphabet, rules, ends)

    def __and__(self, other):
        check_alphabets(self.alphabet, other.alphabet)
        rules, ends = least_parts(paired(hand_machine(self), hand_machine(other), "and"))
        return Hand(self.alphabet, rules, ends)

    def __rshift__(self, other):
        check_alphabets(self.alphabet, other.alphabet)
        rules, ends = least_parts(determined(joined_net(self, other)))
        return Hand(self.alphabet, rules, ends)


def least(hand):
    """Return the least hand that lets the same rows."""
    rules, ends = least_parts(hand_machine(hand))
    return Hand(hand.alphabet, rules, ends)

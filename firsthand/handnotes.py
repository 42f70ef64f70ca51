"""The written form of hands."""

from firsthand.errors import BadNotation, BadRule
from firsthand.hands import Hand
from firsthand.letters import is_alphabet
from firsthand.notation import block_in, check_same, check_single, number_in, parts_in

MOST_STATE = 19
MOST_COST = 99
MOST_RULES = 60
LONGEST_WRITTEN = 6


def rule_note(rule):
    """Return the written form of a rule."""
    state, letter, block, cost, after = rule
    return f"{state}:{letter}>{block},{cost}>{after}"


def format_hand(hand):
    """Return the written form of a hand."""
    words = [hand.alphabet] + [rule_note(rule) for rule in hand.rules] + ["/"] + [str(state) for state in hand.ends]
    return " ".join(words)


def rule_in(word):
    """Return the rule that is written."""
    head, written, after = parts_in(word, ">", 3)
    state, letter = parts_in(head, ":", 2)
    block, cost = parts_in(written, ",", 2)
    return (
        number_in(state, MOST_STATE), letter, block_in(block, LONGEST_WRITTEN), number_in(cost, MOST_COST),
        number_in(after, MOST_STATE),
    )


def hand_in(line):
    """Return the hand whose written form is the line."""
    head, _, tail = line.partition(" /")
    words = head.split(" ")
    if not is_alphabet(words[0]):
        raise BadNotation(0)
    rules = [rule_in(word) for word in words[1:]]
    ends = [number_in(word, MOST_STATE) for word in tail.split(" ")[1:]]
    if len(rules) > MOST_RULES:
        raise BadNotation(0)
    try:
        hand = Hand(words[0], rules, ends)
    except BadRule:
        raise BadNotation(0)
    # What is not in order, stands there twice or is missing is found by this.
    check_same(line, format_hand(hand))
    return hand


def parse_hand(string):
    """Return the hand whose written form is the string."""
    lines = string.split("\n")
    hand = hand_in(lines[0])
    check_single(lines)
    return hand

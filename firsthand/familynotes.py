"""The written form of families."""

from firsthand.errors import BadNotation, CopyError
from firsthand.families import Family
from firsthand.handnotes import format_hand, hand_in
from firsthand.letters import is_alphabet
from firsthand.notation import check_same, number_in, parts_in
from firsthand.setnotes import format_set, set_in

ANY = "any"
HEAD = "letters "
MEETINGS = ("joined", "conflated", "corrected")


def making_note(name, making):
    """Return the line of a made copy."""
    if making[0] == "copied":
        return f"copied {name} {making[1]} {format_hand(making[2])}"
    kind, one, two, most, cost = making
    bound = ANY if most is None else str(most)
    return f"{kind} {name} {one} {two} {bound} {cost}"


def kept_note(name, texts):
    """Return the line of what is kept of a copy."""
    return f"kept {name} {format_set(texts)}"


def format_family(family):
    """Return the written form of a family."""
    lines = [HEAD + family.alphabet]
    lines.extend([making_note(name, family.making(name)) for name in family.made])
    for name in family.names:
        texts = family.kept(name)
        if texts is not None:
            lines.append(kept_note(name, texts))
    return "\n".join(lines)


def with_meeting(family, line):
    """Return the family with one more copy, with the meeting that is written in the line."""
    kind, name, one, two, bound, price = parts_in(line, " ", 6)
    most = None if bound == ANY else number_in(bound, 9)
    cost = number_in(price, 99)
    if kind == "joined":
        return family.joined(name, one, two, most=most, cost=cost)
    if kind == "conflated":
        return family.conflated(name, one, two, most=most, cost=cost)
    return family.corrected(name, one, two, most=most, cost=cost)


def with_line(family, line):
    """Return the family to which one more line leads."""
    words = line.split(" ")
    if words[0] == "kept" and len(words) > 2:
        return family.found(words[1], set_in(" ".join(words[2:])))
    if words[0] == "copied" and len(words) > 3:
        return family.copied(words[1], words[2], hand_in(" ".join(words[3:])))
    if words[0] not in MEETINGS:
        raise BadNotation(0)
    return with_meeting(family, line)


def parse_family(string):
    """Return the family whose written form is the string."""
    lines = string.split("\n")
    alphabet = lines[0][len(HEAD):]
    if not is_alphabet(alphabet) or lines[0] != HEAD + alphabet:
        raise BadNotation(0)
    family = Family(alphabet)
    for number, line in enumerate(lines):
        if number > 0:
            try:
                family = with_line(family, line)
                # Lines that are not in order, or that say something again, are found by this.
                check_same("\n".join(lines[:number + 1]), format_family(family))
            except CopyError:
                raise BadNotation(number)
    return family

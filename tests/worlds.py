"""Slow ways through the histories of a family, word by word from the document, and families made up for the tests.

What a beginning of a history did is kept as a dict; nothing here uses the
standings, marks or tracks of the program.
"""

import itertools
import random

from firsthand.claims import Claim
from firsthand.families import Family
from firsthand.hands import Hand
from firsthand.setmaking import exactly, lengths, torn
from firsthand.textsets import TextSet
from tests.brute import accepts, random_form, random_rules, read_form


def text_key(text):
    return (len(text), text)


def entry_key(entry):
    """Entries of one copy that are compared have equally many pairs (point 49)."""
    return (entry,) if isinstance(entry, int) else tuple((text_key(block), cost) for block, cost in entry)


def column_key(column):
    return [entry_key(entry) for entry in column]


def history_key(history):
    first, columns = history
    return (len(first), [(letter, column_key(column)) for letter, column in zip(first, columns)])


def nothing_happened(family):
    return {
        "first": "", "columns": (), "costs": (), "blocks": {name: () for name in family.names},
        "states": {name: 0 for name in family.made if family.making(name)[0] == "copied"},
        "slips": {name: 0 for name in family.names},
    }


def entries_for(hand, state, block):
    """All (entry, written, state) for a block of the exemplar."""
    if not block:
        return [((), "", state)]
    found = []
    for start, letter, written, cost, after in hand.rules:
        if start == state and letter == block[0]:
            for entry, rest, end in entries_for(hand, after, block[1:]):
                found.append((((written, cost), *entry), written + rest, end))
    return found


def with_copy_made(family, was, here, name):
    """Continue a place with one more copy: pairs of the entry and what then happened."""
    making = family.making(name)
    if making[0] == "copied":
        for entry, block, state in entries_for(making[2], was["states"][name], here["row"][making[1]]):
            slips = sum(1 for _, cost in entry if cost > 0)
            yield entry, block, state, slips, sum(cost for _, cost in entry)
        return
    kind, one, two, most, cost = making
    left, right = here["row"][one], here["row"][two]
    place = len(was["first"])
    for side in (0, 1):
        if kind == "joined":
            slip = int(place > 0 and was["columns"][-1][family.made.index(name)] != side)
            block = (left, right)[side]
        else:
            if side == 1 and left == right:
                continue
            slip = side
            block = left if side == 0 else right if kind == "corrected" else left + right
        if most is None or was["slips"][name] + slip <= most:
            yield side, block, None, slip, slip * cost


def fits(family, name, text):
    """Whether the text so far has a state in the kept set."""
    kept = family.kept(name)
    return kept is None or read_form(kept.form, family.alphabet, text) is not None


def continued(family, was):
    """All that can happen at the next place, in the order of point 49."""
    found = []
    for letter in family.alphabet:
        parts = [{"column": (), "row": {"first": letter}, "states": {}, "slips": {"first": 0}, "cost": 0}]
        for name in family.names:
            if name != "first":
                further = []
                for part in parts:
                    for entry, block, state, slips, cost in with_copy_made(family, was, part, name):
                        further.append({
                            "column": (*part["column"], entry), "row": {**part["row"], name: block},
                            "states": part["states"] if state is None else {**part["states"], name: state},
                            "slips": {**part["slips"], name: slips}, "cost": part["cost"] + cost,
                        })
                parts = further
            parts = [part for part in parts if fits(family, name, "".join(was["blocks"][name]) + part["row"][name])]
        for part in sorted(parts, key=lambda part: column_key(part["column"])):
            found.append({
                "first": was["first"] + letter, "columns": (*was["columns"], part["column"]),
                "costs": (*was["costs"], part["cost"]), "states": part["states"],
                "blocks": {name: (*was["blocks"][name], part["row"][name]) for name in family.names},
                "slips": {name: was["slips"][name] + part["slips"][name] for name in family.names},
            })
    return found


def beginnings(family, places):
    """All beginnings of histories with at most so many places, in the order of point 49."""
    if any(family.kept(name) is not None and not family.kept(name).form for name in family.names):
        return []
    here = [nothing_happened(family)]
    found = []
    for place in range(places + 1):
        found.extend(here)
        if place < places:
            here = [after for was in here for after in continued(family, was)]
    return found


def text_in(was, name):
    return "".join(was["blocks"][name])


def may_end(family, was):
    """Whether a beginning is a history of the family (point 46)."""
    for name in family.names:
        if name in was["states"] and was["states"][name] not in family.making(name)[2].ends:
            return False
        kept = family.kept(name)
        if kept is not None and not accepts(kept.form, family.alphabet, text_in(was, name)):
            return False
    return True


def atom_kept(family, was, atom):
    """Whether an atomic claim holds (point 54)."""
    kind = atom[0]
    places = len(was["first"])
    if kind == "lies":
        return text_in(was, atom[1]) in atom[2]
    if kind == "reads":
        return places > atom[2] and was["blocks"][atom[1]][atom[2]] == atom[3]
    if kind == "apart":
        return sum(a != b for a, b in zip(was["blocks"][atom[1]], was["blocks"][atom[2]])) <= atom[3]
    if kind == "slips":
        return was["slips"][atom[1]] <= atom[2]
    if kind == "costs":
        return sum(was["costs"]) <= atom[1]
    return tuple(zip(*[was["blocks"][name] for name in atom[1]])) == atom[2] if atom[1] else places == len(atom[2])


def tree_kept(family, was, tree):
    if tree[0] == "not":
        return not tree_kept(family, was, tree[1])
    if tree[0] == "and":
        return tree_kept(family, was, tree[1]) and tree_kept(family, was, tree[2])
    if tree[0] == "or":
        return tree_kept(family, was, tree[1]) or tree_kept(family, was, tree[2])
    return atom_kept(family, was, tree)


def keeps(family, was, claim):
    return claim is None or tree_kept(family, was, claim.tree)


def looked_at(family, places, claim=None):
    """All histories with at most so many places that keep the claim, in order, as dicts."""
    return [was for was in beginnings(family, places) if may_end(family, was) and keeps(family, was, claim)]


def as_history(was):
    return (was["first"], was["columns"])


def standing_told(family, was):
    """The standing of a beginning (point 50)."""
    makers = []
    for at, name in enumerate(family.made):
        making = family.making(name)
        if making[0] == "copied":
            makers.append(was["states"][name])
        else:
            last = was["columns"][-1][at] if making[0] == "joined" and was["columns"] else None
            makers.append((last, 0 if making[3] is None else was["slips"][name]))
    kept = []
    for name in family.names:
        texts = family.kept(name)
        kept.append(None if texts is None else read_form(texts.form, family.alphabet, text_in(was, name)))
    return tuple(makers), tuple(kept)


def item_told(family, was, atom):
    """The item of a mark (point 58)."""
    kind = atom[0]
    places = len(was["first"])
    if kind == "lies":
        return read_form(atom[2].form, family.alphabet, text_in(was, atom[1]))
    if kind == "reads":
        if places <= atom[2]:
            return places
        return atom[2] + (1 if was["blocks"][atom[1]][atom[2]] == atom[3] else 2)
    if kind == "apart":
        differ = sum(a != b for a, b in zip(was["blocks"][atom[1]], was["blocks"][atom[2]]))
        return min(differ, atom[3] + 1)
    if kind == "slips":
        return min(was["slips"][atom[1]], atom[2] + 1)
    if kind == "costs":
        return min(sum(was["costs"]), atom[1] + 1)
    rows = [tuple(was["blocks"][name][place] for name in atom[1]) for place in range(places)]
    return places if rows == list(atom[2][:places]) else None


def track_told(family, was, claim):
    mark = () if claim is None else tuple(item_told(family, was, atom) for atom in claim.atoms)
    return standing_told(family, was), mark


def tracks_told(family, claim, places):
    """The tracks of all beginnings with at most so many places, each once, in order."""
    return list(dict.fromkeys(track_told(family, was, claim) for was in beginnings(family, places)))


def random_hand(rand, alphabet):
    if rand.random() < 0.4:
        faults = []
        for _ in range(rand.randint(1, 2)):
            kind = rand.choice(["omit", "double", "leap"] + ["mistake", "turn"] * (len(alphabet) > 1))
            cost = rand.randint(1, 3)
            if kind in ("mistake", "turn"):
                faults.append((kind, *rand.sample(alphabet, 2), cost))
            else:
                faults.append((kind, rand.choice(alphabet), cost))
        return Hand.of_faults(alphabet, faults, limit=rand.choice([None, 1, 2]))
    return Hand(alphabet, *random_rules(rand, alphabet, states=rand.randint(1, 3), rules=rand.randint(1, 5)))


def random_texts(rand, alphabet):
    kind = rand.randrange(5)
    if kind == 0:
        return exactly(alphabet, ["".join(rand.choice(alphabet) for _ in range(rand.randint(0, 3))) for _ in range(3)])
    if kind == 1:
        return torn(alphabet, "".join(rand.choice(alphabet + "*?") for _ in range(rand.randint(1, 4))))
    if kind == 2:
        return lengths(alphabet, rand.randint(0, 1), rand.randint(1, 3))
    return TextSet(alphabet, random_form(rand, len(alphabet), most=4, gaps=0.2))


def random_family(rand, copies=3, kept=0.5):
    alphabet = rand.choice(["a", "ab", "ab", "ab"])
    family = Family(alphabet)
    for name in ["x", "y", "z", "w"][:rand.randint(0, copies)]:
        kind = rand.choice(["copied", "copied", "copied", "joined", "conflated", "corrected"])
        if kind == "copied":
            family = family.copied(name, rand.choice(family.names), random_hand(rand, alphabet))
        else:
            one, two = rand.choice(family.names), rand.choice(family.names)
            most = rand.choice([None, None, 0, 1, 2])
            family = getattr(family, kind)(name, one, two, most=most, cost=rand.randint(0, 2))
    for name in family.names:
        if rand.random() < kept:
            family = family.found(name, random_texts(rand, alphabet))
    return family


def random_atom(rand, family):
    kind = rand.choice(["lies", "reads", "apart", "slips", "costs", "shows"])
    name, other = rand.choice(family.names), rand.choice(family.names)
    block = "".join(rand.choice(family.alphabet) for _ in range(rand.randint(0, 2)))
    if kind == "lies":
        return Claim.lies(name, random_texts(rand, family.alphabet))
    if kind == "reads":
        return Claim.reads(name, rand.randint(0, 2), block)
    if kind == "apart":
        return Claim.apart(name, other, rand.randint(0, 2))
    if kind == "slips":
        return Claim.slips(name, rand.randint(0, 2))
    if kind == "costs":
        return Claim.costs(rand.randint(0, 4))
    names = [rand.choice(family.names) for _ in range(rand.randint(0, 2))]
    rows = [[rand.choice(["", *family.alphabet]) for _ in names] for _ in range(rand.randint(0, 2))]
    return Claim.shows(names, rows)


def random_claim(rand, family, atoms=3):
    claims = [random_atom(rand, family) for _ in range(rand.randint(1, atoms))]
    while len(claims) > 1:
        two, one = claims.pop(), claims.pop()
        claims.append(one & two if rand.random() < 0.5 else one | two)
    return ~claims[0] if rand.random() < 0.3 else claims[0]


def random_worlds(seed, count, copies=3, kept=0.5, places=3, most=4000, atoms=3):
    """Families with a claim, a supposition (perhaps None) and all beginnings with at most so many places."""
    rand = random.Random(seed)
    found = []
    while len(found) < count:
        family = random_family(rand, copies, kept)
        claim = random_claim(rand, family, atoms)
        supposed = random_claim(rand, family, atoms) if rand.random() < 0.6 else None
        if is_small(family, places, most):
            found.append((family, claim, supposed))
    return found


def is_small(family, places, most):
    here = [nothing_happened(family)]
    total = 1
    for _ in range(places):
        here = list(itertools.islice((after for was in here for after in continued(family, was)), most + 1))
        total += len(here)
        if total > most:
            return False
    return True

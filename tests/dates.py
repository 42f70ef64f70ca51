"""Slow ways to the answers about dates, and chronicles made up for the tests."""

import itertools

from firsthand.families import Family
from firsthand.hands import Hand

FAITHFUL = Hand.faithful("ab")
NAMES = ["first", "p", "x", "y", "z", "q", ""]


def random_copies(rand, most=4):
    family = Family("ab")
    for name in ["p", "x", "y", "z"][:rand.randint(0, most)]:
        if rand.random() < 0.5:
            family = family.copied(name, rand.choice(family.names), FAITHFUL)
        else:
            family = family.joined(name, rand.choice(family.names), rand.choice(family.names))
    return family


def random_statement(rand):
    kind = rand.choice(["between", "between", "after", "after", "gone", "scribe"])
    if kind == "between":
        least = rand.choice([None, rand.randint(-5, 5)])
        return (kind, rand.choice(NAMES), least, rand.choice([None, rand.randint(-3, 9)]))
    if kind == "after":
        return (kind, rand.choice(NAMES), rand.choice(NAMES), rand.randint(-3, 4))
    if kind == "gone":
        return (kind, rand.choice(NAMES), rand.randint(-2, 6))
    return (kind, tuple(rand.choice(NAMES) for _ in range(rand.randint(0, 4))), rand.randint(0, 3))


def random_chronicle(rand):
    return tuple(random_statement(rand) for _ in range(rand.randint(0, 5)))


def exemplars_of(family, name):
    making = family.making(name)
    return making[1:2] if making[0] == "copied" else making[1:3]


def statement_holds(family, years, statement):
    """Whether a statement is true of the years, word by word from point 115."""
    kind = statement[0]
    if kind == "between":
        _, name, least, most = statement
        return name not in years or ((least is None or years[name] >= least) and (most is None or years[name] <= most))
    if kind == "after":
        _, one, two, apart = statement
        return one not in years or two not in years or years[two] >= years[one] + apart
    if kind == "gone":
        return all(years[copy] <= statement[2] for copy in family.made if statement[1] in exemplars_of(family, copy))
    counted = [years[name] for name in statement[1] if name in years]
    return all(abs(one - two) <= statement[2] for one in counted for two in counted)


def fits(family, chronicle, years, gap):
    """Whether the years are those of a dating."""
    made = all(years[name] >= years[other] + gap for name in family.made for other in exemplars_of(family, name))
    return made and all(statement_holds(family, years, statement) for statement in chronicle)


def all_datings(family, chronicle, gap, low, high):
    """All datings with years from `low` to `high`."""
    found = []
    for years in itertools.product(range(low, high + 1), repeat=len(family.names)):
        known = dict(zip(family.names, years))
        if fits(family, chronicle, known, gap):
            found.append(known)
    return found


def greatest_sums(names, bonds):
    """The greatest sums of the bonds of a chain from one name to another, for all pairs; there must be no ring."""
    nodes = [None, *names]
    sums = {(one, one): 0 for one in nodes}
    for late, early, years in bonds:
        sums[early, late] = max(years, sums.get((early, late), years))
    for middle in nodes:
        for one in nodes:
            for two in nodes:
                if (one, middle) in sums and (middle, two) in sums:
                    through = sums[one, middle] + sums[middle, two]
                    sums[one, two] = max(through, sums.get((one, two), through))
    return sums

"""Families with fewer copies."""

from firsthand.errors import CannotContract
from firsthand.families import FIRST, assembled, check_name, sources


def restricted(family, names):
    """Return the family that has only these copies and those from which they were made."""
    stays = {FIRST: True}
    for name in names:
        check_name(family, name)
        stays[name] = True
    for name in reversed(family.made):
        if name in stays:
            for exemplar in sources(family.making(name)):
                stays[exemplar] = True
    made = [name for name in family.made if name in stays]
    makings = [family.making(name) for name in made]
    finds = [family.kept(name) for name in family.names if name in stays]
    return assembled(family.alphabet, [FIRST] + made, makings, finds)


def contracted(family, name):
    """Return the family without a lost copy between two others."""
    making = family.making(name)
    users = family.users(name)
    if making[0] != "copied" or family.kept(name) is not None or len(users) != 1:
        raise CannotContract(name)
    other = family.making(users[0])
    if other[0] != "copied":
        raise CannotContract(name)
    names = [left for left in family.names if left != name]
    joined = ("copied", making[1], making[2] >> other[2])
    makings = [joined if left == users[0] else family.making(left) for left in names[1:]]
    return assembled(family.alphabet, names, makings, [family.kept(left) for left in names])

"""What all datings share: ranges of years, and how far apart two copies surely are."""

from firsthand.chains import first_ring, searched_from
from firsthand.chronicles import bonds
from firsthand.errors import NoDating
from firsthand.families import check_name


def dated_bonds(family, chronicle, names, gap):
    """Return the bonds of the family, or raise the error of the first name, or NoDating."""
    for name in names:
        check_name(family, name)
    found = bonds(family, chronicle, gap=gap)
    if first_ring(found, family.names)[1] is not None:
        raise NoDating()
    return found


def year_range(family, chronicle, name, *, gap=1):
    """Return the least and the greatest year of the name in any dating; None if there is no such bound."""
    found = dated_bonds(family, chronicle, (name,), gap)
    least = searched_from(found, None).sums.get(name)
    back = searched_from(found, name).sums.get(None)
    return least, None if back is None else -back


def sure_gap(family, chronicle, one, two, *, gap=1):
    """Return how many years `two` was made after `one` at least, in every dating, or None."""
    found = dated_bonds(family, chronicle, (one, two), gap)
    return searched_from(found, one).sums.get(two)


def sure_chain(family, chronicle, one, two, *, gap=1):
    """Return bonds from `two` back to `one` that show their sure gap, or None."""
    search = searched_from(dated_bonds(family, chronicle, (one, two), gap), one)
    return search.chain_from(two) if two in search.sums else None


def sure_order(family, chronicle, *, gap=1):
    """Return all pairs (one, two) of names of which `two` is surely later, in the order of the names."""
    found = dated_bonds(family, chronicle, (), gap)
    pairs = []
    for one in family.names:
        sums = searched_from(found, one).sums
        pairs.extend([(one, two) for two in family.names if two in sums and sums[two] >= 1])
    return tuple(pairs)

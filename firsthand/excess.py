"""How much dearer than necessary a history must be to break a claim."""

from firsthand.claims import check_asked, joint_claim
from firsthand.errors import NoHistory
from firsthand.prices import least_cost


def excess(family, claim, *, supposed=None):
    """Return by how much a history may cost more than the least cost so that the claim surely holds, or None."""
    check_asked(family, (), (supposed, claim))
    least = least_cost(family, supposed=supposed)
    if least is None:
        raise NoHistory()
    broken = least_cost(family, supposed=joint_claim(~claim, supposed))
    return None if broken is None else broken - least - 1

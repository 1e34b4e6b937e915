"""Weights: who holds the parts of a slot."""

from trailparts.checks import check_house, check_slot
from trailparts.holdings import holdings


def holders(world, house, number):
    """Return the sorted list of tuples (holder, part), one for each address of a slot that is held."""
    check_house(world.state, house)
    check_slot(world.state, house, number)
    place = (house, number)
    return sorted([(holder, address[3]) for holder, address in holdings(world.state) if address[:2] == place])

"""Papers: why a slot is still occupied, for a looker that trusts nobody."""

from trailparts.checks import check_house, check_slot
from trailparts.holdings import holdings
from trailparts.values import is_name, is_plain_int


def paper_of(world, house, number):
    """Return a paper of an occupied slot."""
    check_house(world.state, house)
    check_slot(world.state, house, number)
    roots, before = ways(world.state)
    place = (house, number)
    if place not in roots and place not in before:
        return ("dead", others(world.state, roots, before))
    path = [place]
    while path[-1] in before:
        path.append(before[path[-1]])
    path.reverse()
    return ("reached", roots[path[0]], path)


def ways(state):
    """Return how slots are reached: a root for some of them, the slot before it on a shortest path for the others."""
    roots = {}
    within = {}
    for holder, address in holdings(state):
        if is_root(holder):
            roots.setdefault(address[:2], holder)
        else:
            within.setdefault(holder[1:3], []).append(address[:2])
    before = {}
    reached = list(roots)
    at = 0
    while at < len(reached):
        place = reached[at]
        for held in within.get(place, []):
            if held not in roots and held not in before:
                before[held] = place
                reached.append(held)
        at += 1
    return (roots, before)


def others(state, roots, before):
    """Return the occupied slots that are not reached, in ascending order. All their holders are among them."""
    places = [(house, number) for house, rooms in enumerate(state.houses) for number in sorted(rooms)]
    return [place for place in places if place not in roots and place not in before]


def holds(world, house, number, paper):
    """Return whether any value is a paper of an occupied slot."""
    check_house(world.state, house)
    check_slot(world.state, house, number)
    if not isinstance(paper, tuple):
        return False
    place = (house, number)
    if len(paper) == 3 and paper[0] == "reached":
        return is_path(world.state, place, paper[1], paper[2])
    if len(paper) == 2 and paper[0] == "dead":
        return is_dead(world.state, place, paper[1])
    return False


def is_path(state, place, root, path):
    """Return whether any two values are a root and a path from it to a slot."""
    if not is_root(root) or not are_slots(state, path):
        return False
    if len(path) == 0 or path[-1] != place or len(set(path)) < len(path):
        return False
    steps = {(source_of(holder), address[:2]): True for holder, address in holdings(state)}
    return all([step in steps for step in zip([root] + path, path)])


def is_dead(state, place, slots):
    """Return whether any value is an ascending list of slots, with a given one, that hold all that is held of them."""
    if not are_slots(state, slots) or place not in slots:
        return False
    if not all([lower < higher for lower, higher in zip(slots, slots[1:])]):
        return False
    members = {slot: True for slot in slots}
    sources = [source_of(holder) for holder, address in holdings(state) if address[:2] in members]
    return all([source in members for source in sources])


def is_root(thing):
    """Return whether any value has the form of a root."""
    if not isinstance(thing, tuple) or len(thing) not in (1, 3):
        return False
    if len(thing) == 1:
        return thing[0] == "letter"
    return thing[0] == "variable" and is_name(thing[1]) and is_name(thing[2])


def are_slots(state, thing):
    """Return whether any value is a list of occupied slots."""
    return isinstance(thing, list) and all([is_slot(state, item) for item in thing])


def is_slot(state, thing):
    """Return whether any value is an occupied slot."""
    if not isinstance(thing, tuple) or len(thing) != 2:
        return False
    house, number = thing
    if not is_plain_int(house) or not is_plain_int(number):
        return False
    return 0 <= house < len(state.houses) and number in state.houses[house]


def source_of(holder):
    """Return the slot in which a holder is, or the holder itself if it is a root."""
    if is_root(holder):
        return holder
    return holder[1:3]

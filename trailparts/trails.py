"""Trails: where the notes of moved objects lead."""

from trailparts.checks import check_hand, check_house, check_slot, check_ticket, check_variable


def trail_from(world, house, number):
    """Return the list of the slots from an occupied one to the last one that is known of its object."""
    check_house(world.state, house)
    check_slot(world.state, house, number)
    trail = [(house, number)]
    place = next_place(world.state, house, number)
    while place is not None:
        trail.append(place)
        place = next_place(world.state, place[0], place[1])
    return trail


def next_place(state, house, number):
    """Return the slot that follows in a trail, or None."""
    slot = state.houses[house][number]
    if slot.kind == "note":
        return (slot.note[0], slot.note[1])
    return slot.heir


def notes_ahead(world, hand, name):
    """Return how many notes an ask through a variable will pass if no object is moved from now on."""
    check_hand(world.state, hand)
    check_variable(world.state, hand, name)
    house, number, age, part = world.state.hands[hand][name][1]
    last = trail_from(world, house, number)[-1]
    slot = world.state.houses[last[0]][last[1]]
    if slot.kind == "departing":
        return slot.age + 1 - age
    return slot.age - age


def notes_passed(world, ticket):
    """Return how many notes an ask has passed so far."""
    check_ticket(world.state, ticket)
    return world.state.passed[ticket]

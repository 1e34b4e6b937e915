"""How slots are taken, paid back and freed."""

from trailparts.letters import send_back
from trailparts.parts import WHOLE, plus
from trailparts.states import Slot


def take_slot(state, house, age):
    """Let a house take a slot for an object; return its number."""
    rooms = state.houses[house]
    number = 0
    while number in rooms:
        number += 1
    state.occupations += 1
    rooms[number] = Slot(state.occupations, age)
    return number


def new_object(state, house):
    """Make an object; return its address with the whole."""
    return (house, take_slot(state, house, 0), 0, WHOLE)


def pay(slot, part):
    """Add a part to the purse of a slot."""
    slot.purse = plus(slot.purse, part)
    slot.changes += 1


def leave(state, house, number):
    """End the occupation of a slot."""
    del state.houses[house][number]


def free_slot(state, house, number):
    """Free a slot with an object or a note; what it holds goes back."""
    slot = state.houses[house][number]
    leave(state, house, number)
    for box in sorted(slot.boxes):
        send_back(state, slot.boxes[box][1])
    if slot.note is not None:
        send_back(state, slot.note)

"""How an object handles a deed. Each of these returns the value and the yield, or None for no yield."""

from trailparts.occupying import new_object
from trailparts.settings import copy_box, put, remove_box, set_box


def do_get(state, house, slot, ask):
    """Tell the number."""
    return (slot.number, None)


def do_add(state, house, slot, ask):
    """Add to the number."""
    slot.number += ask.load[1]
    return (slot.number, None)


def do_boxes(state, house, slot, ask):
    """Tell the names of the boxes."""
    return (tuple(sorted(slot.boxes)), None)


def do_take(state, house, slot, ask):
    """Set a box to the gift."""
    box = ask.load[1]
    existed = box in slot.boxes
    set_box(state, slot, box, ask.brings)
    return (existed, None)


def do_clear(state, house, slot, ask):
    """Remove a box."""
    box = ask.load[1]
    if box not in slot.boxes:
        return (False, None)
    remove_box(state, slot, box)
    return (True, None)


def do_give(state, house, slot, ask):
    """Yield a copy of the address in a box."""
    box = ask.load[1]
    if box not in slot.boxes:
        return (False, None)
    return (True, copy_box(slot, box))


def do_make(state, house, slot, ask):
    """Yield a new object."""
    return (True, new_object(state, house))


def do_clone(state, house, slot, ask):
    """Yield a new object with the same number and copies of what is in the boxes."""
    address = new_object(state, house)
    other = state.houses[house][address[1]]
    other.number = slot.number
    names = sorted(slot.boxes)
    for box in names:
        put(state, other.boxes, box, copy_box(slot, box))
    return (True, address)


DEEDS = {
    "get": do_get,
    "add": do_add,
    "boxes": do_boxes,
    "take": do_take,
    "clear": do_clear,
    "give": do_give,
    "make": do_make,
    "clone": do_clone,
}


def handle(state, house, slot, ask):
    """Let the object in a slot of a house handle the deed of an ask."""
    action = DEEDS[ask.load[0]]
    return action(state, house, slot, ask)

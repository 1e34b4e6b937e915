"""Settings: the variables of a hand and the boxes of an object, as dicts of pairs (setting, address) by names."""

from trailparts.addresses import split, updated
from trailparts.letters import send_back


def put(state, held, name, address):
    """Set a variable or a box."""
    if name in held:
        send_back(state, held[name][1])
    state.settings += 1
    held[name] = (state.settings, address)


def take_copy(held, name):
    """Return a copy of the address that a variable or a box holds."""
    setting, address = held[name]
    kept, given = split(address)
    held[name] = (setting, kept)
    return given


def remove_setting(state, held, name):
    """Remove a variable or a box; its address goes back."""
    send_back(state, held[name][1])
    del held[name]


def renew(state, held, name, setting, address):
    """Update a setting, if it stands, by an address; return whether what it holds changed."""
    if name not in held or held[name][0] != setting:
        send_back(state, address)
        return False
    kept, back = updated(held[name][1], address)
    held[name] = (setting, kept)
    if back is not None:
        send_back(state, back)
    return back != address


def set_box(state, slot, box, address):
    """Set a box of the object in a slot."""
    put(state, slot.boxes, box, address)
    slot.changes += 1


def copy_box(slot, box):
    """Return a copy of the address in a box of the object in a slot."""
    slot.changes += 1
    return take_copy(slot.boxes, box)


def remove_box(state, slot, box):
    """Remove a box of the object in a slot."""
    remove_setting(state, slot.boxes, box)
    slot.changes += 1


def renew_box(state, slot, box, setting, address):
    """Update a setting of a box of the object in a slot, like renew."""
    if renew(state, slot.boxes, box, setting, address):
        slot.changes += 1

"""The deeds of hands and houses, when all is as it must be."""

from trailparts.letters import Letter, send_letter
from trailparts.occupying import new_object
from trailparts.settings import copy_box, put, remove_setting, take_copy


def make_object(state, hand, name, house):
    """Set a variable to a new object."""
    put(state, state.hands[hand], name, new_object(state, house))
    state.entries.append(("make", hand, name))


def send_ask(state, hand, name, deed, gift, target):
    """Ask through a variable; return the ticket."""
    variables = state.hands[hand]
    ticket = len(state.asks) + 1
    bears = take_copy(variables, name)
    brings = None
    if gift is not None:
        brings = take_copy(variables, gift)
    state.asks[ticket] = (hand, name, variables[name][0], target)
    state.passed[ticket] = 0
    send_letter(state, Letter(("ask", ticket) + bears[:2], bears=bears, brings=brings, load=deed))
    state.entries.append(("ask", hand, name, deed, gift, target))
    return ticket


def share_variable(state, hand, name, new):
    """Set a variable to a copy of another one."""
    variables = state.hands[hand]
    put(state, variables, new, take_copy(variables, name))
    state.entries.append(("share", hand, name, new))


def drop_variable(state, hand, name):
    """Remove a variable."""
    remove_setting(state, state.hands[hand], name)
    state.entries.append(("drop", hand, name))


def send_gift(state, hand, name, to, new):
    """Send a copy of the address of a variable to a hand."""
    state.gifts += 1
    bears = take_copy(state.hands[hand], name)
    send_letter(state, Letter(("gift", to, new), bears=bears, load=state.gifts))
    state.entries.append(("send", hand, name, to, new))


def send_object(state, house, number, to):
    """Let an object leave its slot for another house."""
    slot = state.houses[house][number]
    send_letter(state, Letter(("object", house, number, to), load=(slot.number, slot.boxes)))
    slot.kind = "departing"
    slot.boxes = {}
    slot.changes += 1


def send_seek(state, house, number, box):
    """Send for the place where the object in a box stands now."""
    slot = state.houses[house][number]
    bears = copy_box(slot, box)
    load = ((house, number, box), slot.boxes[box][0])
    send_letter(state, Letter(("seek",) + bears[:2], bears=bears, load=load))

"""Looks: two rounds of reports, and the objects that hold only each other."""

from trailparts.letters import Letter, send_letter
from trailparts.parts import WHOLE, plus
from trailparts.settings import remove_box
from trailparts.states import Look


def begin_look(state):
    """Begin a look; return its number."""
    number = len(state.looks) + 1
    state.looks[number] = Look()
    ask_for_reports(state, number, 1)
    return number


def ask_for_reports(state, number, turn):
    """Send the letters of a round."""
    for house in range(len(state.houses)):
        send_letter(state, Letter(("look", number, house, turn)))


def report(state, number, house, turn):
    """Let a house report, and go on with the look after the last report of a round."""
    look = state.looks[number]
    rooms = state.houses[house]
    look.reports += 1
    if turn == 1:
        for at in rooms:
            look.first[(house, at)] = (rooms[at].occupation, rooms[at].changes)
        if look.reports == len(state.houses):
            ask_for_reports(state, number, 2)
        return
    for at in rooms:
        if look.first.get((house, at)) == (rooms[at].occupation, rooms[at].changes):
            look.second[(house, at)] = told_of(rooms[at])
    if look.reports == 2 * len(state.houses):
        end_look(state, number)


def told_of(slot):
    """Return what is reported of a slot: its occupation, its purse, the addresses in its boxes, that of its note."""
    boxes = tuple([slot.boxes[box][1] for box in sorted(slot.boxes)])
    notes = (slot.note,) if slot.note is not None else ()
    return (slot.occupation, slot.purse, boxes, notes)


def end_look(state, number):
    """Find the dead set, and send a letter to each house in which an object of it has a box."""
    look = state.looks[number]
    dead = dead_set(look.second)
    look.dead = {place: dead[place][0] for place in dead}
    boxed = [place[0] for place in dead if len(dead[place][2]) > 0]
    for house in range(len(state.houses)):
        if house in boxed:
            send_letter(state, Letter(("empty", number, house)))


def dead_set(reports):
    """Return the reports of the greatest set of slots of which nothing is held outside of it."""
    dead = {place: reports[place] for place in reports}
    weights = weights_within(dead)
    # Slots of which a part is held elsewhere leave, which may leave parts of others held elsewhere, and so on.
    while any([weights[place] != WHOLE for place in weights]):
        dead = {place: dead[place] for place in dead if weights[place] == WHOLE}
        weights = weights_within(dead)
    return dead


def weights_within(reports):
    """Return, for each reported slot, its purse together with the parts of it that these slots hold."""
    weights = {place: reports[place][1] for place in reports}
    for place in reports:
        occupation, purse, boxes, notes = reports[place]
        for house, number, age, part in boxes + notes:
            if (house, number) in weights:
                weights[(house, number)] = plus(weights[(house, number)], part)
    return weights


def empty_objects(state, number, house):
    """Let the objects of a dead set that still stand in a house lose all their boxes."""
    dead = state.looks[number].dead
    rooms = state.houses[house]
    for at in sorted(rooms):
        if dead.get((house, at)) == rooms[at].occupation:
            names = sorted(rooms[at].boxes)
            for box in names:
                remove_box(state, rooms[at], box)

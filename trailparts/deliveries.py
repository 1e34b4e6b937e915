"""What happens when a letter is delivered."""

from trailparts.addresses import split
from trailparts.handling import handle
from trailparts.letters import Letter, send_back, send_letter, send_on
from trailparts.looks import empty_objects, report
from trailparts.occupying import free_slot, leave, pay, take_slot
from trailparts.parts import WHOLE
from trailparts.settings import put, renew, renew_box


def deliver_ask(state, letter):
    """Let the object in the slot handle the ask, or let it wait or pass the note."""
    house, number, age, part = letter.bears
    slot = state.houses[house][number]
    if slot.kind != "object":
        go_further(state, slot, letter)
        return
    ticket = letter.told[1]
    state.entries.append(("handled", ticket))
    value, yielded = handle(state, house, slot, letter)
    send_letter(state, Letter(("answer", ticket), bears=letter.bears, brings=yielded, load=value))


def deliver_seek(state, letter):
    """Answer the box from which the seek was sent, or let the seek wait or pass the note."""
    house, number, age, part = letter.bears
    slot = state.houses[house][number]
    if slot.kind != "object":
        go_further(state, slot, letter)
        return
    place, setting = letter.load
    send_letter(state, Letter(("found",) + place, bears=letter.bears, load=setting))


def go_further(state, slot, letter):
    """Let an ask or a seek wait at a departing slot, or pass a note."""
    if slot.kind == "departing":
        slot.waiting.append(letter)
    else:
        pass_note(state, slot, letter)


def pass_note(state, slot, letter):
    """Let an ask or a seek pay its part and go on with an address, the note's own one if no other part is left."""
    house, number, age, part = letter.bears
    pay(slot, part)
    if slot.purse == WHOLE:
        taken = slot.note
        leave(state, house, number)
    else:
        slot.note, taken = split(slot.note)
    if letter.told[0] == "ask":
        state.passed[letter.told[1]] += 1
    send_on(state, letter, taken)


def deliver_answer(state, letter):
    """Update the variable through which was asked, set the target, and let the value be read."""
    ticket = letter.told[1]
    hand, name, setting, target = state.asks[ticket]
    variables = state.hands[hand]
    renew(state, variables, name, setting, letter.bears)
    if letter.brings is not None:
        put(state, variables, target, letter.brings)
    state.answers[ticket] = letter.load
    state.entries.append(("answered", ticket))


def deliver_gift(state, letter):
    """Set the variable."""
    word, hand, name = letter.told
    put(state, state.hands[hand], name, letter.bears)
    state.entries.append(("given", letter.load))


def deliver_back(state, letter):
    """Add the part to the purse of the slot, which may be free then."""
    house, number, age, part = letter.bears
    slot = state.houses[house][number]
    pay(slot, part)
    if slot.purse == WHOLE and slot.kind != "departing":
        free_slot(state, house, number)


def deliver_object(state, letter):
    """Let the object stand in a slot of its new house, and tell the slot that it left."""
    word, house, number, to = letter.told
    left = state.houses[house][number]
    age = left.age + 1
    taken = take_slot(state, to, age)
    slot = state.houses[to][taken]
    slot.number = letter.load[0]
    # The letter may also be under way outside of a trial, where its boxes must not change.
    slot.boxes = dict(letter.load[1])
    left.heir = (to, taken)
    send_letter(state, Letter(("reply", house, number), bears=(to, taken, age, WHOLE)))


def deliver_reply(state, letter):
    """Turn the departing slot into a note, or free it if nobody holds a part of it any more."""
    word, house, number = letter.told
    slot = state.houses[house][number]
    if slot.purse == WHOLE:
        leave(state, house, number)
        send_back(state, letter.bears)
    else:
        become_note(state, slot, letter.bears)


def become_note(state, slot, address):
    """Turn a departing slot into a note with an address, and let all that waits there pass it."""
    waiting = slot.waiting
    slot.kind = "note"
    slot.note = address
    slot.waiting = []
    slot.changes += 1
    for letter in waiting:
        pass_note(state, slot, letter)


def deliver_found(state, letter):
    """Update the setting of the box, if it stands in an object in this slot now."""
    word, house, number, box = letter.told
    slot = state.houses[house].get(number)
    if slot is None:
        send_back(state, letter.bears)
    else:
        # A slot without an object has no boxes.
        renew_box(state, slot, box, letter.load, letter.bears)


def deliver_look(state, letter):
    """Let the house report."""
    word, number, house, turn = letter.told
    report(state, number, house, turn)


def deliver_empty(state, letter):
    """Let the dead objects of the house lose their boxes."""
    word, number, house = letter.told
    empty_objects(state, number, house)


DELIVERIES = {
    "ask": deliver_ask,
    "seek": deliver_seek,
    "answer": deliver_answer,
    "gift": deliver_gift,
    "back": deliver_back,
    "object": deliver_object,
    "reply": deliver_reply,
    "found": deliver_found,
    "look": deliver_look,
    "empty": deliver_empty,
}


def deliver_letter(state, place):
    """Deliver the letter at an index of those that are under way; return its tuple."""
    letter = state.under_way.pop(place)
    action = DELIVERIES[letter.told[0]]
    action(state, letter)
    return letter.told

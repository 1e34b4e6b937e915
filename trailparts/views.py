"""What can be seen of a state from outside."""


def addresses_in(held):
    """Return the addresses that variables or boxes hold, by their names, in ascending order."""
    return {name: held[name][1] for name in sorted(held)}


def told_inside(slot):
    """Return what an occupied slot holds."""
    if slot.kind == "object":
        return ("object", slot.number, addresses_in(slot.boxes))
    if slot.kind == "departing":
        return ("departing", len(slot.waiting))
    return ("note", slot.note)


def told_slots(rooms):
    """Return a tuple for each occupied slot of a house, in order."""
    return [(number, rooms[number].kind, rooms[number].age, rooms[number].purse) for number in sorted(rooms)]


def told_letters(state):
    """Return the tuples of the letters under way, in order."""
    return [letter.told for letter in state.under_way]


def told_answers(state):
    """Return the answers so that equal ones are the same: True is told apart from 1."""
    return [(ticket, isinstance(value, bool), value) for ticket, value in sorted(state.answers.items())]


def picture(state):
    """Return all that counts when worlds are compared."""
    insides = [[told_inside(rooms[number]) for number in sorted(rooms)] for rooms in state.houses]
    variables = [(hand, addresses_in(state.hands[hand])) for hand in state.hands]
    slots = [told_slots(rooms) for rooms in state.houses]
    return [slots, insides, variables, told_letters(state), told_answers(state)]

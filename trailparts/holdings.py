"""Who holds which addresses: variables, boxes, notes and letters."""


def holdings(state):
    """Return a pair (holder, address) for each address that is held anywhere."""
    return held_by_variables(state) + held_by_slots(state) + held_by_letters(state)


def held_by_variables(state):
    """Return the pairs of the variables, hand by hand."""
    variables = [(hand, name) for hand in state.hands for name in sorted(state.hands[hand])]
    return [(("variable", hand, name), state.hands[hand][name][1]) for hand, name in variables]


def held_by_slots(state):
    """Return the pairs of the boxes and notes, slot by slot."""
    pairs = []
    for house, rooms in enumerate(state.houses):
        for number in sorted(rooms):
            slot = rooms[number]
            pairs.extend([(("box", house, number, box), slot.boxes[box][1]) for box in sorted(slot.boxes)])
            if slot.note is not None:
                pairs.append((("note", house, number), slot.note))
    return pairs


def held_by_letters(state):
    """Return the pairs of the letters that are under way, and of those that wait."""
    letters = list(state.under_way)
    for rooms in state.houses:
        for number in sorted(rooms):
            letters.extend(rooms[number].waiting)
    return [(("letter",), address) for letter in letters for address in addresses_of(letter)]


def addresses_of(letter):
    """Return the addresses in a letter."""
    addresses = [address for address in (letter.bears, letter.brings) if address is not None]
    if letter.told[0] == "object":
        boxes = letter.load[1]
        addresses.extend([boxes[box][1] for box in sorted(boxes)])
    return addresses

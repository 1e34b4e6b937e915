"""Events: the deeds of hands and houses, and deliveries, as tuples that can be done in a world."""

SIZES = {"make": 4, "ask": 6, "share": 4, "drop": 3, "send": 5, "move": 4, "tidy": 4, "look": 1, "deliver": 2}


def has_form(thing):
    """Return whether any value is a tuple with the word of an event and as many items as the event has."""
    if not isinstance(thing, tuple) or len(thing) == 0 or not isinstance(thing[0], str):
        return False
    return thing[0] in SIZES and len(thing) == SIZES[thing[0]]


def event_make(world, event):
    """Let a hand make an object."""
    word, hand, name, house = event
    return world.make(hand, name, house)


def event_ask(world, event):
    """Let a hand ask; return the ticket."""
    word, hand, name, deed, gift, target = event
    return world.ask(hand, name, deed, gift=gift, target=target)


def event_share(world, event):
    """Let a hand share."""
    word, hand, name, new = event
    return world.share(hand, name, new)


def event_drop(world, event):
    """Let a hand drop a variable."""
    word, hand, name = event
    return world.drop(hand, name)


def event_send(world, event):
    """Let a hand send a gift."""
    word, hand, name, to, new = event
    return world.send(hand, name, to, new)


def event_move(world, event):
    """Let a house move an object."""
    word, house, number, to = event
    return world.move(house, number, to)


def event_tidy(world, event):
    """Let a house tidy a box."""
    word, house, number, box = event
    return world.tidy(house, number, box)


def event_look(world, event):
    """Begin a look; return its number."""
    return world.look()


def event_deliver(world, event):
    """Deliver a letter; return its tuple."""
    return world.deliver(event[1])


EVENTS = {
    "make": event_make,
    "ask": event_ask,
    "share": event_share,
    "drop": event_drop,
    "send": event_send,
    "move": event_move,
    "tidy": event_tidy,
    "look": event_look,
    "deliver": event_deliver,
}


def do_event(world, event):
    """Do an event in a world; return what the world returns."""
    action = EVENTS[event[0]]
    return action(world, event)

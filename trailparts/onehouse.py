"""The one house, where nothing moves and nothing is freed: the answers that a log gives there."""

from trailparts.deeds import is_complete
from trailparts.errors import NoLog
from trailparts.things import Thing, do_deed
from trailparts.values import is_name, is_plain_int


class OneHouse:
    """What has happened so far.

    hands: the things that the variables of each hand hold; asks: of each ticket, (hand, thing, deed, gift, target);
    handled: of each ticket, (value, yielded); answers: the value of each ticket, in the order in which they came;
    gifts: of each number, (hand, name, thing); given: the numbers of those that were delivered.
    """

    def __init__(self, hands):
        self.hands = {hand: {} for hand in hands}
        self.asks = {}
        self.handled = {}
        self.answers = {}
        self.gifts = {}
        self.given = {}


def as_if(hands, log):
    """Return the answers that a log gives in the one house, as tuples (ticket, value)."""
    if not isinstance(log, list):
        raise NoLog(0)
    house = OneHouse(hands)
    for place, entry in enumerate(log):
        if not is_entry(house, entry):
            raise NoLog(place)
        action = HAPPENS[entry[0]]
        action(house, entry)
    return list(house.answers.items())


def is_entry(house, entry):
    """Return whether any value is an entry that fits now."""
    if not isinstance(entry, tuple) or len(entry) == 0 or not isinstance(entry[0], str):
        return False
    if entry[0] not in SIZES or len(entry) != SIZES[entry[0]]:
        return False
    fits = FITS[entry[0]]
    return fits(house, entry)


def is_hand(house, thing):
    """Return whether any value is a hand."""
    return is_name(thing) and thing in house.hands


def is_variable(house, hand, thing):
    """Return whether any value is a hand, and any other one the name of one of its variables."""
    return is_hand(house, hand) and is_name(thing) and thing in house.hands[hand]


def is_first(number, known, past):
    """Return whether any value is a known number that is not a past one."""
    return is_plain_int(number) and number in known and number not in past


def fits_make(house, entry):
    """Return whether this make fits."""
    word, hand, name = entry
    return is_hand(house, hand) and is_name(name)


def fits_ask(house, entry):
    """Return whether this ask fits."""
    word, hand, name, deed, gift, target = entry
    if not is_variable(house, hand, name) or not is_complete(deed, gift, target):
        return False
    if gift is not None and not is_variable(house, hand, gift):
        return False
    return target is None or is_name(target)


def fits_share(house, entry):
    """Return whether this share fits."""
    word, hand, name, new = entry
    return is_variable(house, hand, name) and is_name(new)


def fits_drop(house, entry):
    """Return whether this drop fits."""
    word, hand, name = entry
    return is_variable(house, hand, name)


def fits_send(house, entry):
    """Return whether this send fits."""
    word, hand, name, to, new = entry
    return is_variable(house, hand, name) and is_hand(house, to) and is_name(new)


def fits_handled(house, entry):
    """Return whether a ticket was asked and is not handled yet."""
    return is_first(entry[1], house.asks, house.handled)


def fits_answered(house, entry):
    """Return whether a ticket was handled and is not answered yet."""
    return is_first(entry[1], house.handled, house.answers)


def fits_given(house, entry):
    """Return whether a gift was sent and is not given yet."""
    return is_first(entry[1], house.gifts, house.given)


def happens_make(house, entry):
    """Set a variable to a new thing."""
    word, hand, name = entry
    house.hands[hand][name] = Thing(0)


def happens_ask(house, entry):
    """Keep what the ask is for, with the things that its variables hold now."""
    word, hand, name, deed, gift, target = entry
    variables = house.hands[hand]
    brought = None
    if gift is not None:
        brought = variables[gift]
    house.asks[len(house.asks) + 1] = (hand, variables[name], deed, brought, target)


def happens_share(house, entry):
    """Set a variable to what another one holds."""
    word, hand, name, new = entry
    house.hands[hand][new] = house.hands[hand][name]


def happens_drop(house, entry):
    """Remove a variable."""
    word, hand, name = entry
    del house.hands[hand][name]


def happens_send(house, entry):
    """Keep the gift, with the thing that its variable holds now."""
    word, hand, name, to, new = entry
    house.gifts[len(house.gifts) + 1] = (to, new, house.hands[hand][name])


def happens_handled(house, entry):
    """Let the thing do the deed."""
    hand, thing, deed, brought, target = house.asks[entry[1]]
    house.handled[entry[1]] = do_deed(thing, deed, brought)


def happens_answered(house, entry):
    """Let the value be read, and set the target to the yield."""
    hand, thing, deed, brought, target = house.asks[entry[1]]
    value, yielded = house.handled[entry[1]]
    if yielded is not None:
        house.hands[hand][target] = yielded
    house.answers[entry[1]] = value


def happens_given(house, entry):
    """Set the variable to the gift."""
    to, new, thing = house.gifts[entry[1]]
    house.hands[to][new] = thing
    house.given[entry[1]] = True


SIZES = {"make": 3, "ask": 6, "share": 4, "drop": 3, "send": 5, "handled": 2, "answered": 2, "given": 2}

FITS = {
    "make": fits_make,
    "ask": fits_ask,
    "share": fits_share,
    "drop": fits_drop,
    "send": fits_send,
    "handled": fits_handled,
    "answered": fits_answered,
    "given": fits_given,
}

HAPPENS = {
    "make": happens_make,
    "ask": happens_ask,
    "share": happens_share,
    "drop": happens_drop,
    "send": happens_send,
    "handled": happens_handled,
    "answered": happens_answered,
    "given": happens_given,
}

"""The checks of what worlds are given: each raises an error if something is not as it must be."""

from trailparts.deeds import is_complete
from trailparts.errors import NoBox, NoDeed, NoHand, NoHouse, NoLetter, NoName, NoObject, NoSlot, NoTicket
from trailparts.values import is_name, is_plain_int

MOST_HOUSES = 6
MOST_HANDS = 5


def check_houses(houses):
    """Raise an error if a value is not a number of houses."""
    if not is_plain_int(houses) or not 1 <= houses <= MOST_HOUSES:
        raise NoHouse(houses)


def check_hands(hands):
    """Raise an error if a value is not a list of hands."""
    if not isinstance(hands, list) or not 1 <= len(hands) <= MOST_HANDS:
        raise NoHand(hands)
    if not all([is_name(hand) for hand in hands]) or len(set(hands)) < len(hands):
        raise NoHand(hands)


def check_hand(state, hand):
    """Raise an error if a value is not a hand."""
    if not is_name(hand) or hand not in state.hands:
        raise NoHand(hand)


def check_name(name):
    """Raise an error if a value is not a name."""
    if not is_name(name):
        raise NoName(name)


def check_variable(state, hand, name):
    """Raise an error if a value is not the name of a variable of a hand."""
    if not is_name(name) or name not in state.hands[hand]:
        raise NoName(name)


def check_deed(deed, gift, target):
    """Raise an error if a value is not a deed, or does not come with just what it takes."""
    if not is_complete(deed, gift, target):
        raise NoDeed(deed)


def check_house(state, house):
    """Raise an error if a value is not a house."""
    if not is_plain_int(house) or not 0 <= house < len(state.houses):
        raise NoHouse(house)


def check_slot(state, house, number):
    """Raise an error if a value is not the number of an occupied slot of a house."""
    if not is_plain_int(number) or number not in state.houses[house]:
        raise NoSlot(number)


def check_object(state, house, number):
    """Raise an error if a value is not the number of a slot of a house in which an object stands."""
    if not is_plain_int(number) or number not in state.houses[house]:
        raise NoObject(number)
    if state.houses[house][number].kind != "object":
        raise NoObject(number)


def check_box(state, house, number, box):
    """Raise an error if a value is not the name of a box of the object in a slot."""
    if not is_name(box) or box not in state.houses[house][number].boxes:
        raise NoBox(box)


def check_place(state, place):
    """Raise an error if a value is not an index of the letters under way."""
    if not is_plain_int(place) or not 0 <= place < len(state.under_way):
        raise NoLetter(place)


def check_ticket(state, ticket):
    """Raise an error if a value is not a ticket."""
    if not is_plain_int(ticket) or ticket not in state.asks:
        raise NoTicket(ticket)

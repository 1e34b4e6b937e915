"""Worlds: houses, hands, and the letters between them."""

from trailparts.checks import (
    check_box, check_deed, check_hand, check_hands, check_house, check_houses, check_name, check_object, check_place,
    check_slot, check_ticket, check_variable,
)
from trailparts.deliveries import deliver_letter
from trailparts.errors import Busy, NoHouse, NotYet
from trailparts.hands import drop_variable, make_object, send_ask, send_gift, send_object, send_seek, share_variable
from trailparts.looks import begin_look
from trailparts.rows import rows_of
from trailparts.states import State
from trailparts.views import picture, told_inside, told_letters, told_slots


class World:
    """A world of houses, numbered from 0, and hands with names."""

    def __init__(self, houses, hands):
        check_houses(houses)
        check_hands(hands)
        self.state = State(houses, hands)
        self.busy = False

    def __len__(self):
        return len(self.state.under_way)

    def __repr__(self):
        return f"World({len(self.state.houses)}, {len(self.state.events)})"

    def __str__(self):
        return "\n".join(rows_of(self.state.events))

    def __eq__(self, other):
        return isinstance(other, World) and picture(self.state) == picture(other.state)

    def make(self, hand, name, house):
        """Set a variable of a hand to a new object in a house."""
        refuse_if_busy(self)
        check_hand(self.state, hand)
        check_name(name)
        check_house(self.state, house)
        self.state.events.append(("make", hand, name, house))
        make_object(self.state, hand, name, house)

    def ask(self, hand, name, deed, *, gift=None, target=None):
        """Ask for a deed through a variable of a hand; return the ticket."""
        refuse_if_busy(self)
        check_hand(self.state, hand)
        check_variable(self.state, hand, name)
        check_deed(deed, gift, target)
        if gift is not None:
            check_variable(self.state, hand, gift)
        if target is not None:
            check_name(target)
        self.state.events.append(("ask", hand, name, deed, gift, target))
        return send_ask(self.state, hand, name, deed, gift, target)

    def share(self, hand, name, new):
        """Set a variable of a hand to a copy of another one."""
        refuse_if_busy(self)
        check_hand(self.state, hand)
        check_variable(self.state, hand, name)
        check_name(new)
        self.state.events.append(("share", hand, name, new))
        share_variable(self.state, hand, name, new)

    def drop(self, hand, name):
        """Remove a variable of a hand."""
        refuse_if_busy(self)
        check_hand(self.state, hand)
        check_variable(self.state, hand, name)
        self.state.events.append(("drop", hand, name))
        drop_variable(self.state, hand, name)

    def send(self, hand, name, to, new):
        """Send a copy of a variable of a hand to a hand, for a variable there."""
        refuse_if_busy(self)
        check_hand(self.state, hand)
        check_hand(self.state, to)
        check_variable(self.state, hand, name)
        check_name(new)
        self.state.events.append(("send", hand, name, to, new))
        send_gift(self.state, hand, name, to, new)

    def move(self, house, number, to):
        """Let a house move the object in a slot to another house."""
        refuse_if_busy(self)
        check_house(self.state, house)
        check_object(self.state, house, number)
        check_house(self.state, to)
        if to == house:
            raise NoHouse(to)
        self.state.events.append(("move", house, number, to))
        send_object(self.state, house, number, to)

    def tidy(self, house, number, box):
        """Let a house tidy a box of the object in a slot."""
        refuse_if_busy(self)
        check_house(self.state, house)
        check_object(self.state, house, number)
        check_box(self.state, house, number, box)
        self.state.events.append(("tidy", house, number, box))
        send_seek(self.state, house, number, box)

    def look(self):
        """Begin a look; return its number."""
        refuse_if_busy(self)
        self.state.events.append(("look",))
        return begin_look(self.state)

    def letters(self):
        """Return the list of the letters under way."""
        return told_letters(self.state)

    def deliver(self, place=0):
        """Deliver the letter at an index of the list of letters; return its tuple."""
        refuse_if_busy(self)
        check_place(self.state, place)
        self.state.events.append(("deliver", place))
        return deliver_letter(self.state, place)

    def rest(self, *, by=None):
        """Deliver the first letter, or the one that a function chooses, until none is under way; return how many."""
        refuse_if_busy(self)
        count = 0
        while len(self.state.under_way) > 0:
            place = 0
            if by is not None:
                place = chosen(self, by)
            self.deliver(place)
            count += 1
        return count

    def answer(self, ticket):
        """Return the value that an ask was answered with."""
        check_ticket(self.state, ticket)
        if ticket not in self.state.answers:
            raise NotYet(ticket)
        return self.state.answers[ticket]

    def names(self, hand):
        """Return the names of the variables of a hand, in ascending order."""
        check_hand(self.state, hand)
        return sorted(self.state.hands[hand])

    def address(self, hand, name):
        """Return the address that a variable of a hand holds."""
        check_hand(self.state, hand)
        check_variable(self.state, hand, name)
        return self.state.hands[hand][name][1]

    def slots(self, house):
        """Return a tuple (number, state, age, purse) for each occupied slot of a house, in order."""
        check_house(self.state, house)
        return told_slots(self.state.houses[house])

    def inside(self, house, number):
        """Return what an occupied slot holds."""
        check_house(self.state, house)
        check_slot(self.state, house, number)
        return told_inside(self.state.houses[house][number])

    def log(self):
        """Return the list of what hands did and what happened to their asks and gifts."""
        return list(self.state.entries)

    def history(self):
        """Return the list of the events."""
        return list(self.state.events)

    def trial(self, function):
        """Return what a function returns that is called with the world; afterwards the world is as before."""
        kept = self.state
        self.state = kept.copied()
        try:
            return function(self)
        finally:
            self.state = kept


def refuse_if_busy(world):
    """Raise an error while a function chooses a letter of the world."""
    if world.busy:
        raise Busy()


def chosen(world, by):
    """Return the index of the letter that a function chooses."""
    told = world.letters()
    # The function may spoil the list.
    count = len(told)
    world.busy = True
    try:
        wish = by(told)
    finally:
        world.busy = False
    return wish % count

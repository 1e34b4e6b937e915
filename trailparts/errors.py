"""The errors of the package. The fields of an error are its arguments, in their order."""


class NoPart(ArithmeticError):
    """Some value is not a part, not the text of one, or is nothing where more is needed."""

    def __init__(self, part):
        self.part = part


class TooMuch(OverflowError):
    """Adding this part comes to more than the whole."""

    def __init__(self, part):
        self.part = part


class NoDeed(ValueError):
    """Some value is not a deed, or it comes with a gift or a target that it does not take."""

    def __init__(self, deed):
        self.deed = deed


class NoText(ValueError):
    """The row with this index is not one of a history's text."""

    def __init__(self, row):
        self.row = row


class NoHistory(ValueError):
    """The event with this index is none, or cannot be done."""

    def __init__(self, place):
        self.place = place


class NoLog(ValueError):
    """The entry with this index does not fit into the log."""

    def __init__(self, place):
        self.place = place


class NoSaying(ValueError):
    """A desk does not know what it was told."""


class NoHand(KeyError):
    """There is no such hand, or no such list of hands."""

    def __init__(self, hand):
        self.hand = hand


class NoName(KeyError):
    """Some value is not a name, or not the name of a variable."""

    def __init__(self, name):
        self.name = name


class NoBox(KeyError):
    """The object has no such box."""

    def __init__(self, box):
        self.box = box


class NoHouse(IndexError):
    """There is no such house, or no such number of houses."""

    def __init__(self, house):
        self.house = house


class NoSlot(IndexError):
    """The slot with this number is not occupied."""

    def __init__(self, number):
        self.number = number


class NoLetter(IndexError):
    """No letter is under way at this place."""

    def __init__(self, place):
        self.place = place


class NoObject(LookupError):
    """No object stands in the slot with this number."""

    def __init__(self, number):
        self.number = number


class NoTicket(LookupError):
    """No ask has this ticket."""

    def __init__(self, ticket):
        self.ticket = ticket


class NotYet(RuntimeError):
    """The ask with this ticket is not answered yet."""

    def __init__(self, ticket):
        self.ticket = ticket


class Busy(RuntimeError):
    """The world is waiting for a function that chooses a letter."""


class NoWorld(RuntimeError):
    """The desk has no world yet."""

"""Letters: what is under way between hands and houses, or waits at a slot."""


class Letter:
    """A letter. It never changes; one that goes on from a note is a new letter.

    told: the tuple that tells it; bears: its address, or None; brings: the gift of an ask or the yield of an answer, or
    None; load: whatever else it has.
    """

    def __init__(self, told, *, bears=None, brings=None, load=None):
        self.told = told
        self.bears = bears
        self.brings = brings
        self.load = load


def send_letter(state, letter):
    """Put a letter behind all that are under way."""
    state.under_way.append(letter)


def send_back(state, address):
    """Let an address go back to its slot."""
    house, number, age, part = address
    send_letter(state, Letter(("back", house, number, part), bears=address))


def send_on(state, letter, address):
    """Send an ask or a seek on to the slot of the address that it took from a note."""
    told = letter.told[:-2] + address[:2]
    send_letter(state, Letter(told, bears=address, brings=letter.brings, load=letter.load))

"""The state of a world: all that a trial brings back."""

from trailparts.parts import NOTHING


class Slot:
    """One occupation of a slot.

    kind: "object", "departing" or "note"; number and boxes: the object's; note: the note's address; heir: where the
    object that left was delivered; waiting: the letters that wait; changes: how often it has changed, as looks
    understand it.
    """

    def __init__(self, occupation, age):
        self.occupation = occupation
        self.age = age
        self.purse = NOTHING
        self.kind = "object"
        self.number = 0
        self.boxes = {}
        self.note = None
        self.heir = None
        self.waiting = []
        self.changes = 0

    def copied(self):
        """Return a slot that shares nothing with this one that can change."""
        other = Slot(self.occupation, self.age)
        other.purse = self.purse
        other.kind = self.kind
        other.number = self.number
        other.boxes = dict(self.boxes)
        other.note = self.note
        other.heir = self.heir
        other.waiting = list(self.waiting)
        other.changes = self.changes
        return other


class Look:
    """What is known of a look.

    reports: how many were made; first: of each slot of round 1, its occupation and its changes; second: the reports of
    round 2 of the unchanged slots; dead: the occupations of the slots of the dead set.
    """

    def __init__(self):
        self.reports = 0
        self.first = {}
        self.second = {}
        self.dead = {}

    def copied(self):
        """Return a look that shares nothing with this one that can change."""
        other = Look()
        other.reports = self.reports
        other.first = {place: self.first[place] for place in self.first}
        other.second = {place: self.second[place] for place in self.second}
        other.dead = {place: self.dead[place] for place in self.dead}
        return other


class State:
    """The houses, the hands, the letters, and what happened.

    houses: for each house, its occupied slots by their numbers; hands: the variables of each hand, as pairs (setting,
    address) by their names, like boxes; asks: of each ticket, (hand, name, setting, target); passed: of each ticket,
    how many notes; entries: the log; events: the history; gifts, settings, occupations: how many there were.
    """

    def __init__(self, houses, hands):
        self.houses = [{} for house in range(houses)]
        self.hands = {hand: {} for hand in hands}
        self.under_way = []
        self.asks = {}
        self.passed = {}
        self.answers = {}
        self.looks = {}
        self.entries = []
        self.events = []
        self.gifts = 0
        self.settings = 0
        self.occupations = 0

    def copied(self):
        """Return a state that shares nothing with this one that can change."""
        other = State(0, [])
        other.houses = [{number: rooms[number].copied() for number in rooms} for rooms in self.houses]
        other.hands = {hand: dict(self.hands[hand]) for hand in self.hands}
        other.under_way = list(self.under_way)
        other.asks = dict(self.asks)
        other.passed = dict(self.passed)
        other.answers = dict(self.answers)
        other.looks = {look: self.looks[look].copied() for look in self.looks}
        other.entries = list(self.entries)
        other.events = list(self.events)
        other.gifts = self.gifts
        other.settings = self.settings
        other.occupations = self.occupations
        return other

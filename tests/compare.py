"""What can be seen of a world through its interface, and histories that are done in a world and in the model."""

import random

from tests.model import Model
from trailparts.errors import NotYet
from trailparts.onehouse import as_if
from trailparts.trails import notes_ahead, notes_passed, trail_from
from trailparts.worlds import World

NAMES = ["x", "y", "z", "with"]
BOXES = ["a", "b", "into"]


def exact(value):
    """Return a value in which True and 1 are told apart."""
    if isinstance(value, dict):
        return ("dict", [(exact(key), exact(item)) for key, item in value.items()])
    if isinstance(value, (list, tuple)):
        return (value.__class__.__name__, [exact(item) for item in value])
    return (value.__class__.__name__, value)


def value_of(world, ticket):
    """Return the answer, or a word if there is none yet."""
    try:
        return world.answer(ticket)
    except NotYet:
        return "not yet"


def tickets_of(world):
    return range(1, 1 + len([entry for entry in world.log() if entry[0] == "ask"]))


def view(world, houses, hands):
    """Return all that the interface shows of a world."""
    seen = [repr(world), str(world), len(world), world.letters(), world.log(), world.history()]
    for house in range(houses):
        rows = world.slots(house)
        seen.append((rows, [world.inside(house, row[0]) for row in rows], [trail_from(world, house, row[0]) for row in rows]))
    for hand in hands:
        names = world.names(hand)
        seen.append((names, [world.address(hand, name) for name in names], [notes_ahead(world, hand, name) for name in names]))
    for ticket in tickets_of(world):
        seen.append((value_of(world, ticket), notes_passed(world, ticket)))
    return exact(seen)


def model_view(model, hands):
    """Return of the model what view returns of a world, without the strings."""
    seen = [len(model.under_way), model.letters(), model.told, model.done]
    for house in range(len(model.houses)):
        rows = model.slots(house)
        trails = [[(slot.house, slot.number) for slot in model.trail(model.at(house, row[0]))] for row in rows]
        seen.append((rows, [model.inside(house, row[0]) for row in rows], trails))
    for hand in hands:
        names = model.names(hand)
        seen.append((names, [model.address(hand, name) for name in names], [model.ahead(hand, name) for name in names]))
    for ticket, ask in enumerate(model.asked, 1):
        seen.append((model.values.get(ticket, "not yet"), len(ask["route"])))
    return exact(seen)


def without_strings(seen):
    return (seen[0], seen[1][2:])


class Pair:
    """A world and the model, in which the same happens."""

    def __init__(self, test, houses, hands):
        self.test = test
        self.houses = houses
        self.hands = list(hands)
        self.world = World(houses, hands)
        self.model = Model(houses, hands)

    def do(self, event):
        """Do an event in both, and compare what is returned."""
        got = do_event(self.world, event)
        expected = do_event(self.model, event)
        self.test.assertEqual(exact(got), exact(expected), event)
        return got

    def check(self):
        """Compare all that can be seen, and check what holds at every moment."""
        self.test.assertEqual(without_strings(view(self.world, self.houses, self.hands)), model_view(self.model, self.hands))
        self.test.assertEqual(self.model.faults(), [])
        answers = as_if(self.hands, self.world.log())
        self.test.assertEqual(exact(answers), exact(self.model.order))

    def drain(self, chance):
        """Deliver in any order until nothing is under way."""
        steps = 0
        while self.model.under_way:
            self.do(("deliver", chance.randrange(len(self.model.under_way))))
            steps += 1
            self.test.assertLess(steps, 5000)


def do_event(world, event):
    """Do an event, as a history tells it."""
    word, *items = event
    if word == "ask":
        hand, name, deed, gift, target = items
        return world.ask(hand, name, deed, gift=gift, target=target)
    return getattr(world, word)(*items)


def random_deed(chance):
    word = chance.choice(["get", "add", "boxes", "take", "take", "take", "clear", "give", "give", "make", "clone"])
    if word == "add":
        return (word, chance.choice([0, 1, -1, 5, 10 ** 9, -10 ** 9]))
    if word in ("take", "clear", "give"):
        return (word, chance.choice(BOXES))
    return (word,)


def random_event(chance, model, weights):
    """Return an event that can be done now."""
    hands = list(model.variables)
    hand = chance.choice(hands)
    names = model.names(hand)
    objects = [slot for house in model.houses for slot in house if slot.state() == "object"]
    boxed = [slot for slot in objects if slot.being.boxes]
    while True:
        word = chance.choices(list(weights), list(weights.values()))[0]
        if word == "make":
            return ("make", hand, chance.choice(NAMES), chance.randrange(len(model.houses)))
        if word == "ask" and names:
            deed = random_deed(chance)
            gift = chance.choice(names) if deed[0] == "take" else None
            target = chance.choice(NAMES) if deed[0] in ("give", "make", "clone") else None
            return ("ask", hand, chance.choice(names), deed, gift, target)
        if word == "share" and names:
            return ("share", hand, chance.choice(names), chance.choice(NAMES))
        if word == "drop" and names:
            return ("drop", hand, chance.choice(names))
        if word == "send" and names:
            return ("send", hand, chance.choice(names), chance.choice(hands), chance.choice(NAMES))
        if word == "move" and objects and len(model.houses) > 1:
            slot = chance.choice(objects)
            others = [house for house in range(len(model.houses)) if house != slot.house]
            return ("move", slot.house, slot.number, chance.choice(others))
        if word == "tidy" and boxed:
            slot = chance.choice(boxed)
            return ("tidy", slot.house, slot.number, chance.choice(sorted(slot.being.boxes)))
        if word == "look":
            return ("look",)
        if word == "deliver" and model.under_way:
            return ("deliver", chance.randrange(len(model.under_way)))


def random_world(seed, events, houses=3, hands=("ann", "bob")):
    """Return a world after a history of so many random events, and the model."""
    chance = random.Random(seed)
    weights = {"make": 3, "ask": 12, "share": 2, "drop": 1, "send": 2, "move": 5, "tidy": 2, "look": 1, "deliver": 24}
    world = World(houses, list(hands))
    model = Model(houses, hands)
    for step in range(events):
        event = random_event(chance, model, weights)
        do_event(world, event)
        do_event(model, event)
    return world, model

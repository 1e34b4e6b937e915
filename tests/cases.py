"""What the tests of worlds have in common."""

import unittest

from tests.compare import exact, view
from trailparts.worlds import World

# Values that are no names.
NO_NAMES = [
    None, True, False, 0, 1, -1, 10 ** 39, "", " ", "A", "Ann", "ann ", " x", "x\n", "a b", "abcdefg", "x1", "x_", "1",
    [], ["x"], ["ann"], (), ("x",), ("ann",), {}, {"x": 1}, {"ann": "x"}, [[[[[[[["x"]]]]]]]],
]
# Values that are no integers from 0 on that are near enough.
NO_NUMBERS = [
    None, True, False, -1, -2, 10 ** 39, -10 ** 39, "", "0", "1", [], [0], [1], (), (0,), (1,), {}, {0: 0}, {1: 1}, [[0]],
]
NO_DEEDS = [
    None, True, False, 0, 1, "", "get", "add 5", [], ["get"], ["add", 5], (), ("",), ("got",), ("GET",), ("get", None),
    ("get", "b"), ("get", 0), ("boxes", "b"), ("make", "b"), ("make", 0), ("clone", "b"), ("add",), ("add", True),
    ("add", False), ("add", None), ("add", "5"), ("add", [5]), ("add", (5,)), ("add", 5, 5), ("add", 10 ** 9 + 1),
    ("add", -10 ** 9 - 1), ("add", 10 ** 39), ("take",), ("take", None), ("take", ""), ("take", "B"), ("take", "abcdefg"),
    ("take", 1), ("take", True), ("take", "b", "x"), ("take", ["b"]), ("take", ("b",)), ("clear",), ("clear", "b b"),
    ("clear", "b", "b"), ("give",), ("give", 0), ("give", "b1"), ("give", "b", None), ("add", "b"), ("take", 5),
    (None,), (True,), (0,), (("get",),), (["get"],), ({},), (None, "b"), (("take", "b"),), ("b", "take"), {}, {"get": 1},
]


class WorldCase(unittest.TestCase):
    hands = ["ann", "bob"]
    houses = 3

    def new_world(self):
        return World(self.houses, list(self.hands))

    def view(self, world):
        return view(world, self.houses, self.hands)

    def counters(self, world):
        """Return the ticket, the number of a gift and the number of a look that would come next."""
        return world.trial(self.next_numbers)

    def next_numbers(self, world):
        hand = self.hands[0]
        world.make(hand, "probe", 0)
        ticket = world.ask(hand, "probe", ("get",))
        world.send(hand, "probe", hand, "probe")
        world.deliver(len(world) - 1)
        return ticket, world.log()[-1], world.look()

    def assert_exact(self, got, expected, told=None):
        self.assertEqual(exact(got), exact(expected), told)

    def assert_raises(self, error, field, value, function, *given, **named):
        with self.assertRaises(error) as caught:
            function(*given, **named)
        self.assertIs(caught.exception.__class__, error)
        if field is not None:
            self.assert_exact(getattr(caught.exception, field), value)

    def assert_refused(self, world, error, field, value, function, *given, **named):
        """Check that a call raises an error and changes nothing."""
        before = (self.view(world), self.counters(world))
        self.assert_raises(error, field, value, function, *given, **named)
        self.assertEqual((self.view(world), self.counters(world)), before)

    def object_at(self, world, house, number, boxes, told=0):
        """Check the object in a slot: the number, and its boxes in their order."""
        inside = world.inside(house, number)
        self.assertIs(inside.__class__, tuple)
        self.assert_exact(inside, ("object", told, boxes))

    def is_free(self, world, house, number):
        self.assertNotIn(number, [row[0] for row in world.slots(house)])

    def deliver_told(self, world, told):
        """Deliver the first letter that is told so."""
        self.assertIn(told, world.letters())
        self.assertEqual(world.deliver(world.letters().index(told)), told)

    def deliver_kind(self, world, kind):
        """Deliver the first letter of a kind."""
        return world.deliver([letter[0] for letter in world.letters()].index(kind))

    def boxed(self, houses=3):
        """Return a world in which the object of ann's x, at (0, 0), has a box b that holds ann's y, at (1, 0)."""
        world = World(houses, list(self.hands))
        world.make("ann", "x", 0)
        world.make("ann", "y", 1)
        world.ask("ann", "x", ("take", "b"), gift="y")
        world.rest()
        return world

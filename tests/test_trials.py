"""Point 27, as far as it speaks of a World: trials, and when two worlds are equal."""

import random
import unittest

from tests.cases import WorldCase
from tests.compare import do_event, random_event, random_world
from tests.samples import OTHER_VALUES
from tests.test_long_histories import EVEN
from trailparts.errors import NoHand, NoName
from trailparts.worlds import World


class Stop(Exception):
    """An error of a function that is tried."""


class TrialTest(WorldCase):
    def test_the_function_is_called_with_the_world_and_its_result_returned(self):
        world = self.new_world()
        for result in OTHER_VALUES:
            self.assertIs(world.trial(lambda given: (self.assertIs(given, world), result)[1]), result)
        self.assertIs(world.trial(lambda given: given), world)

    def test_within_it_what_happened_is_there(self):
        world = self.boxed()

        def function(world):
            self.assertEqual(world.names("ann"), ["x", "y"])
            ticket = world.ask("ann", "x", ("add", 3))
            world.rest()
            return ticket, world.answer(ticket), repr(world), world.history()[-3:]

        self.assert_exact(world.trial(function),
                          (2, 3, "World(3, 8)", [("ask", "ann", "x", ("add", 3), None, None), ("deliver", 0), ("deliver", 0)]))
        self.assertEqual(repr(world), "World(3, 5)")

    def test_afterwards_the_world_is_as_before_whatever_was_done(self):
        for seed in range(60):
            world, model = random_world(seed, 50)
            before = (self.view(world), self.counters(world))
            twin, model = random_world(seed, 50)
            events = world.trial(lambda world: self.wander(world, seed, 40))
            self.assertEqual((self.view(world), self.counters(world)), before)
            self.assertEqual(world == twin, True)
            for event in events:
                self.assertEqual(do_event(world, event), do_event(twin, event))
            self.assertEqual(self.view(world), self.view(twin))
            self.assertEqual(world.rest(), twin.rest())
            self.assertEqual(self.view(world), self.view(twin))

    def wander(self, world, seed, count):
        """Do random events in a world, with the model of seed beside it, and return them."""
        unused, model = random_world(seed, 50)
        chance = random.Random(-seed - 1)
        events = []
        for step in range(count):
            events.append(random_event(chance, model, EVEN))
            do_event(model, events[-1])
            do_event(world, events[-1])
        return events

    def test_within_it_all_goes_on_as_it_would_without(self):
        for seed in range(60):
            world, model = random_world(seed, 60)
            twin, unused = random_world(seed, 60)
            chance = random.Random(seed + 1000)

            def function(world, depth):
                self.assertEqual(self.view(world), self.view(twin))
                for step in range(15):
                    event = random_event(chance, model, EVEN)
                    results = [do_event(one, event) for one in (world, twin, model)]
                    self.assertEqual(results, [results[0]] * 3)
                self.assertEqual(self.view(world), self.view(twin))
                self.assertEqual(self.counters(world), self.counters(twin))
                self.assertIs(world == twin, True)
                if depth < 3:
                    world.trial(lambda world: function(world, depth + 1))

            world.trial(lambda world: function(world, 1))

    def test_within_it_a_look_that_was_begun_before_goes_on(self):
        for before in range(9):
            world = self.boxed()
            world.ask("ann", "x", ("take", "a"), gift="x")
            world.rest()
            world.drop("ann", "x")
            world.drop("ann", "y")
            world.rest()
            world.look()
            for step in range(before):
                world.deliver()

            def function(world):
                world.rest()
                return [world.slots(house) for house in range(3)]

            self.assertEqual(world.trial(lambda world: world.trial(function)), [[], [], []])

    def test_within_it_an_object_in_a_slot_that_was_freed_is_another_one(self):
        world = self.new_world()
        world.make("ann", "x", 0)
        world.ask("ann", "x", ("take", "a"), gift="x")
        world.rest()
        world.drop("ann", "x")
        world.rest()
        for look in [1, 2]:
            world.look()
            for step in range(6):
                self.deliver_kind(world, "look")
        self.assert_exact(world.letters(), [("empty", 1, 0), ("empty", 2, 0)])

        def function(world):
            self.deliver_told(world, ("empty", 1, 0))
            self.deliver_kind(world, "back")
            world.make("ann", "x", 0)
            world.ask("ann", "x", ("take", "a"), gift="x")
            self.deliver_kind(world, "ask")
            self.deliver_told(world, ("empty", 2, 0))
            return world.inside(0, 0)

        self.assert_exact(world.trial(function), ("object", 0, {"a": (0, 0, 0, (1, 4))}))

    def test_within_it_gifts_are_numbered_on(self):
        world = self.boxed()
        world.send("ann", "x", "bob", "w")
        world.trial(lambda world: (world.send("ann", "x", "bob", "v"), world.rest(),
                                   self.assertEqual(world.log()[-2:], [("given", 1), ("given", 2)])))

    def test_an_error_propagates_and_the_world_is_as_before(self):
        for seed in range(10):
            world, model = random_world(seed, 40)
            before = (self.view(world), self.counters(world))

            def function(world):
                world.make("ann", "x", 0)
                world.look()
                world.rest()
                raise Stop(seed)

            with self.assertRaises(Stop) as caught:
                world.trial(function)
            self.assertEqual(caught.exception.args, (seed,))
            self.assertEqual((self.view(world), self.counters(world)), before)

    def test_an_error_of_the_world_propagates(self):
        world = self.boxed()
        self.assert_refused(world, NoHand, "hand", "cat", world.trial, lambda world: (world.look(), world.names("cat")))
        self.assert_refused(world, NoName, "name", "q", world.trial, lambda world: (world.rest(), world.drop("ann", "q")))

    def test_twenty_within_one_another(self):
        world = self.boxed()
        before = (self.view(world), self.counters(world))

        def deeper(world, depth):
            inside = self.view(world)
            world.ask("ann", "x", ("add", 1))
            if depth < 20:
                reached = world.trial(lambda world: deeper(world, depth + 1))
            else:
                world.rest()
                reached = world.answer(21)
            self.assertNotEqual(self.view(world), inside)
            self.assertEqual(len(world), depth if depth < 20 else 0)
            return reached

        self.assertEqual(world.trial(lambda world: deeper(world, 1)), 20)
        self.assertEqual((self.view(world), self.counters(world)), before)

    def test_an_error_in_an_inner_trial_that_is_caught(self):
        world = self.boxed()
        before = self.view(world)

        def inner(world):
            world.drop("ann", "y")
            raise Stop()

        def outer(world):
            world.drop("ann", "x")
            with self.assertRaises(Stop):
                world.trial(inner)
            return world.names("ann")

        self.assertEqual(world.trial(outer), ["y"])
        self.assertEqual(self.view(world), before)

    def test_what_is_under_way_is_as_before(self):
        world = self.boxed()
        world.ask("ann", "x", ("take", "a"), gift="y")
        world.ask("ann", "y", ("clone",), target="t")
        world.move(1, 0, 2)
        world.tidy(0, 0, "b")
        world.send("ann", "x", "bob", "w")
        world.look()
        world.move(0, 0, 1)
        twin = self.boxed()
        for event in world.history()[len(twin.history()):]:
            do_event(twin, event)
        for place in range(len(world)):
            self.assertEqual(world.trial(lambda world: (world.deliver(place), world.rest())[0]), world.letters()[place])
        while len(world):
            world.trial(lambda world: (world.rest(), world.look(), world.rest()))
            world.trial(lambda world: (world.rest(by=lambda letters: -1), world.drop("ann", "x"), world.rest()))
            self.assertEqual(self.view(world), self.view(twin))
            self.assertEqual(world.deliver(len(world) // 2), twin.deliver(len(twin) // 2))
        self.assertEqual(self.view(world), self.view(twin))

    def test_an_object_under_way_that_is_changed_in_a_trial(self):
        world = self.boxed()
        world.move(0, 0, 2)

        def function(world):
            self.deliver_kind(world, "object")
            world.tidy(2, 0, "b")
            world.ask("ann", "x", ("clear", "b"))
            world.ask("ann", "x", ("add", 4))
            world.rest()
            return world.inside(2, 0)

        self.assert_exact(world.trial(function), ("object", 4, {}))
        world.rest()
        self.object_at(world, 2, 0, {"b": (1, 0, 0, (1, 2))})

    def test_a_look_in_a_trial_leaves_no_report(self):
        world = self.boxed()
        world.ask("ann", "x", ("take", "a"), gift="x")
        world.rest()
        world.drop("ann", "x")
        world.rest()
        world.look()
        world.deliver()
        world.trial(lambda world: world.rest())
        world.trial(lambda world: (world.deliver(), world.deliver()))
        # Two letters of round 1, three of round 2, one to empty, and two backs from the boxes.
        self.assertEqual(world.rest(), 2 + 3 + 1 + 2)
        self.assertEqual(world.slots(0), [])


class EqualTest(WorldCase):
    def two(self, events, houses=3, hands=("ann", "bob")):
        """Return two worlds in which these events were done."""
        worlds = [World(houses, list(hands)), World(houses, list(hands))]
        for world in worlds:
            for event in events:
                do_event(world, event)
        return worlds

    def assert_equal_worlds(self, one, other, expected):
        self.assertIs(one == other, expected)
        self.assertIs(other == one, expected)
        self.assertIs(one != other, not expected)
        self.assertIs(other != one, not expected)

    def test_the_same_history(self):
        for seed in range(20):
            one, model = random_world(seed, 50)
            other, model = random_world(seed, 50)
            self.assert_equal_worlds(one, other, True)
            self.assert_equal_worlds(one, one, True)

    def test_different_histories(self):
        worlds = [random_world(seed, 40)[0] for seed in range(20)]
        for at, one in enumerate(worlds):
            for place, other in enumerate(worlds):
                self.assert_equal_worlds(one, other, at == place)

    def test_a_world_is_equal_to_nothing_else(self):
        world = self.new_world()
        for thing in OTHER_VALUES + [World, "World(3, 0)", (3, ["ann", "bob"]), world.history(), object()]:
            self.assertIs(world == thing, False)
            self.assertIs(world != thing, True)

    def test_houses_and_hands(self):
        self.assert_equal_worlds(World(2, ["ann", "bob"]), World(2, ["ann", "bob"]), True)
        self.assert_equal_worlds(World(2, ["ann", "bob"]), World(3, ["ann", "bob"]), False)
        self.assert_equal_worlds(World(2, ["ann", "bob"]), World(2, ["bob", "ann"]), False)
        self.assert_equal_worlds(World(2, ["ann", "bob"]), World(2, ["ann"]), False)
        self.assert_equal_worlds(World(2, ["ann"]), World(2, ["bob"]), False)

    def test_variables_and_their_addresses(self):
        make = ("make", "ann", "x", 0)
        one, other = self.two([make, ("share", "ann", "x", "y")])
        self.assert_equal_worlds(one, self.two([make, ("share", "ann", "x", "z")])[0], False)
        one.drop("ann", "y")
        one.rest()
        other.share("ann", "x", "y")
        other.rest()
        self.assert_equal_worlds(one, other, False)

    def test_the_order_in_which_variables_were_set_does_not_count(self):
        one = self.two([("make", "ann", "x", 0), ("make", "ann", "y", 1)])[0]
        other = self.two([("make", "ann", "y", 1), ("make", "ann", "x", 0)])[0]
        self.assert_equal_worlds(one, other, True)

    def test_the_variables_of_which_hand(self):
        one = self.two([("make", "ann", "x", 0)])[0]
        other = self.two([("make", "bob", "x", 0)])[0]
        self.assert_equal_worlds(one, other, False)

    def test_the_order_in_which_boxes_were_set_does_not_count(self):
        start = [("make", "ann", "x", 0), ("make", "ann", "y", 1), ("make", "ann", "z", 1)]
        take_a = ("ask", "ann", "x", ("take", "a"), "y", None)
        take_b = ("ask", "ann", "x", ("take", "b"), "z", None)
        deliver = [("deliver", 0), ("deliver", 0)]
        one = self.two(start + [take_a] + deliver + [take_b] + deliver)[0]
        other = self.two(start + [take_b] + deliver + [take_a] + deliver)[0]
        self.assert_equal_worlds(one, other, True)

    def test_numbers_and_boxes_of_objects(self):
        make = [("make", "ann", "x", 0), ("make", "ann", "y", 1)]
        deliver = [("deliver", 0), ("deliver", 0)]
        one = self.two(make + [("ask", "ann", "x", ("take", "a"), "y", None)] + deliver)[0]
        other = self.two(make + [("ask", "ann", "x", ("take", "b"), "y", None)] + deliver)[0]
        self.assert_equal_worlds(one, other, False)
        one = self.two(make + [("ask", "ann", "x", ("add", 3), None, None)] + deliver * 1)[0]
        other = self.two(make + [("ask", "ann", "x", ("add", 4), None, None)] + deliver * 1)[0]
        self.assert_equal_worlds(one, other, False)
        # The same answers, though in other objects.
        one = self.two(make + [("ask", "ann", "x", ("add", 3), None, None)] + deliver)[0]
        other = self.two(make + [("ask", "ann", "y", ("add", 3), None, None)] + deliver)[0]
        self.assert_equal_worlds(one, other, False)

    def test_ages_purses_and_states(self):
        one = self.two([("make", "ann", "x", 1), ("move", 1, 0, 0), ("deliver", 0), ("deliver", 0), ("drop", "ann", "x")])[0]
        one.make("bob", "y", 2)
        other = self.two([("make", "ann", "x", 1), ("move", 1, 0, 0), ("deliver", 0), ("drop", "ann", "x")])[0]
        other.make("bob", "y", 2)
        self.assert_equal_worlds(one, other, False)
        one.rest()
        other.rest()
        self.assert_equal_worlds(one, other, True)

    def test_how_many_letters_wait(self):
        events = [("make", "ann", "x", 0), ("make", "ann", "y", 0), ("move", 0, 0, 1), ("move", 0, 1, 1)]
        asks = [("ask", "ann", "x", ("get",), None, None), ("ask", "ann", "y", ("get",), None, None)]
        one, other = self.two(events + asks)
        one.deliver(2)
        other.deliver(3)
        self.assert_equal_worlds(one, other, False)
        one.deliver(2)
        other.deliver(2)
        self.assert_equal_worlds(one, other, True)
        self.assert_exact(one.inside(0, 0), ("departing", 1))

    def test_nothing_else_of_letters_counts_but_what_is_told(self):
        make = [("make", "ann", "x", 0)]
        one = self.two(make + [("ask", "ann", "x", ("add", 1), None, None)])[0]
        other = self.two(make + [("ask", "ann", "x", ("make",), None, "t")])[0]
        self.assert_equal_worlds(one, other, True)
        one.deliver()
        other.deliver()
        self.assert_equal_worlds(one, other, False)

    def test_the_order_of_letters(self):
        make = [("make", "ann", "x", 0), ("share", "ann", "x", "y")]
        one = self.two(make + [("drop", "ann", "x"), ("send", "ann", "y", "bob", "z")])[0]
        other = self.two(make + [("send", "ann", "y", "bob", "z"), ("drop", "ann", "x")])[0]
        self.assertEqual(sorted(one.letters()), sorted(other.letters()))
        self.assert_equal_worlds(one, other, False)
        one.rest()
        other.rest()
        self.assert_equal_worlds(one, other, True)

    def test_answers(self):
        make = [("make", "ann", "x", 0)]
        one, other = self.two(make + [("ask", "ann", "x", ("get",), None, None)])
        one.rest()
        self.assert_equal_worlds(one, other, False)
        other.rest()
        self.assert_equal_worlds(one, other, True)
        one.ask("ann", "x", ("get",))
        one.rest()
        self.assert_equal_worlds(one, other, False)
        self.assertEqual((one.letters(), one.slots(0), one.address("ann", "x")),
                         (other.letters(), other.slots(0), other.address("ann", "x")))

    def test_true_beside_1_and_false_beside_0(self):
        for deed, other_deed in [(("get",), ("clear", "b")), (("clear", "b"), ("get",))]:
            one, other = self.two([("make", "ann", "x", 0)])
            one.ask("ann", "x", deed)
            other.ask("ann", "x", other_deed)
            one.rest()
            other.rest()
            self.assertEqual(one.answer(1), other.answer(1))
            self.assert_equal_worlds(one, other, False)

    def test_true_beside_1(self):
        one, other = self.two([("make", "ann", "x", 0), ("ask", "ann", "x", ("add", 1), None, None)])
        one.rest()
        other.rest()
        ticket = one.ask("ann", "x", ("make",), target="y")
        other.ask("ann", "x", ("get",))
        one.rest()
        other.rest()
        other.make("ann", "y", 0)
        self.assertEqual((one.answer(ticket), other.answer(ticket)), (True, 1))
        self.assertEqual(exact_without_answers(self, one), exact_without_answers(self, other))
        self.assert_equal_worlds(one, other, False)

    def test_the_order_of_answers_does_not_count(self):
        one, other = self.two([("make", "ann", "x", 0)] + [("ask", "ann", "x", ("get",), None, None)] * 2)
        one.rest()
        other.rest(by=lambda letters: -1)
        self.assertNotEqual(one.log(), other.log())
        self.assert_equal_worlds(one, other, True)

    def test_the_counters_do_not_count(self):
        one, other = self.two([("make", "ann", "x", 0), ("make", "ann", "w", 1)])
        for step in range(2):
            one.look()
            one.send("ann", "x", "ann", "x")
            one.rest()
        one.share("ann", "x", "y")
        other.share("ann", "x", "y")
        for world in [one, other]:
            world.drop("ann", "x")
            world.drop("ann", "y")
            world.rest()
        self.assertNotEqual(one.look(), other.look())
        one.rest()
        other.rest()
        self.assertNotEqual(one.history(), other.history())
        self.assert_equal_worlds(one, other, True)

    def test_tickets_of_asks_without_answers_do_not_count(self):
        one, other = self.two([("make", "ann", "x", 0), ("make", "bob", "y", 1)])
        one.trial(lambda world: world.ask("ann", "x", ("get",)))
        self.assert_equal_worlds(one, other, True)

    def test_a_trial_leaves_it_equal(self):
        one, other = self.two([("make", "ann", "x", 0), ("look",), ("move", 0, 0, 1)])
        one.trial(lambda world: self.assert_equal_worlds(world, other, True))
        one.trial(lambda world: (world.rest(), self.assert_equal_worlds(world, other, False)))
        self.assert_equal_worlds(one, other, True)

    def test_the_order_in_which_slots_were_taken_does_not_count(self):
        one, other = self.two([])
        for name in ["x", "y", "z"]:
            one.make("ann", name, 0)
            other.make("ann", name, 0)
        for world, names in [(one, ["x"]), (other, ["y", "x"])]:
            for name in names:
                world.drop("ann", name)
            world.rest()
        one.make("ann", "x", 0)
        other.make("ann", "x", 0)
        other.make("ann", "y", 0)
        self.assert_equal_worlds(one, other, True)
        one.ask("ann", "y", ("add", 1))
        one.rest()
        other.ask("ann", "z", ("add", 1))
        other.rest()
        self.assert_equal_worlds(one, other, False)

    def test_comparing_changes_nothing(self):
        one, model = random_world(5, 60)
        other, model = random_world(6, 60)
        before = (self.view(one), self.view(other))
        self.assertIs(one == other, False)
        self.assertEqual((self.view(one), self.view(other)), before)


def exact_without_answers(case, world):
    """Return what can be seen of the houses, hands and letters."""
    return [world.letters(), [(world.slots(house), [world.inside(house, row[0]) for row in world.slots(house)])
                              for house in range(3)], [(name, world.address("ann", name)) for name in world.names("ann")]]


if __name__ == "__main__":
    unittest.main()

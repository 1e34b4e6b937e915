"""rest, without and with a function that chooses; and Busy while it is called."""

import unittest

from tests.cases import WorldCase
from tests.compare import random_world
from trailparts.errors import Busy, NoHand, NoLetter
from trailparts.trails import notes_ahead, notes_passed, trail_from
from trailparts.worlds import World


class Stop(Exception):
    """An error of a function that chooses."""


class RestCase(WorldCase):
    def asked(self, count):
        """Return a world with so many asks under way, of which each adds 1."""
        world = self.new_world()
        world.make("ann", "x", 0)
        for ticket in range(1, count + 1):
            world.ask("ann", "x", ("add", 1))
        return world

    def delivered(self, world):
        return [event[1] for event in world.history() if event[0] == "deliver"]


class RestTest(RestCase):
    def test_nothing_is_under_way(self):
        world = self.new_world()
        self.assert_exact(world.rest(), 0)
        self.assert_exact(world.rest(by=self.fail), 0)
        self.assertEqual(world.history(), [])

    def test_without_by_always_the_first(self):
        world = self.asked(3)
        self.assert_exact(world.rest(), 6)
        self.assert_exact(self.delivered(world), [0] * 6)
        self.assertEqual(world.log()[-6:], [("handled", 1), ("handled", 2), ("handled", 3),
                                            ("answered", 1), ("answered", 2), ("answered", 3)])

    def test_by_none_is_without(self):
        world = self.asked(2)
        self.assert_exact(world.rest(by=None), 4)
        self.assert_exact(self.delivered(world), [0] * 4)

    def test_what_a_delivery_causes_is_delivered_too(self):
        world = self.boxed()
        world.drop("ann", "x")
        world.drop("ann", "y")
        self.assert_exact(world.rest(), 3)
        self.assertEqual(len(world), 0)

    def test_any_integers_by_their_remainder(self):
        for wish in [0, 1, 2, 3, 5, -1, -2, -7, 10 ** 39, -10 ** 39, 2 ** 64]:
            world = self.asked(3)
            lengths = []

            def by(letters):
                lengths.append(len(letters))
                return wish

            self.assert_exact(world.rest(by=by), 6)
            self.assert_exact(self.delivered(world), [wish % length for length in lengths])
            self.assertEqual(len(lengths), 6)

    def test_the_list_of_letters_is_passed(self):
        world = self.asked(2)
        seen = []

        def by(letters):
            seen.append(list(letters))
            self.assert_exact(letters, world.letters())
            return 0

        world.rest(by=by)
        self.assert_exact(seen, [
            [("ask", 1, 0, 0), ("ask", 2, 0, 0)], [("ask", 2, 0, 0), ("answer", 1)], [("answer", 1), ("answer", 2)],
            [("answer", 2)],
        ])

    def test_a_list_that_is_spoiled(self):
        for spoil in [list.clear, list.reverse, lambda letters: letters.extend([1] * 5), list.pop]:
            world = self.asked(3)
            lengths = []

            def by(letters):
                lengths.append(len(letters))
                spoil(letters)
                return 7

            self.assert_exact(world.rest(by=by), 6)
            self.assert_exact(self.delivered(world), [7 % length for length in lengths])
            self.assert_exact([world.answer(ticket) for ticket in [1, 2, 3]], [3, 1, 2])

    def test_each_delivery_is_an_event(self):
        world = self.asked(2)
        before = len(world.history())
        count = world.rest(by=lambda letters: -1)
        self.assertEqual(len(world.history()), before + count)

    def test_the_same_as_deliver(self):
        for seed in range(20):
            world, model = random_world(seed, 60)
            other = World(3, ["ann", "bob"])
            steps = world.rest(by=lambda letters: len(letters) // 2)
            again, model = random_world(seed, 60)
            count = 0
            while len(again):
                again.deliver(len(again) // 2 % len(again))
                count += 1
            self.assertEqual((count, again), (steps, world))
            self.assertEqual((again.history(), again.log()), (world.history(), world.log()))
            self.assertFalse(again == other)

    def test_by_is_passed_by_name(self):
        world = self.asked(1)
        with self.assertRaises(TypeError):
            world.rest(lambda letters: 0)


class RaisingTest(RestCase):
    def test_an_error_propagates_and_what_was_delivered_stays(self):
        world = self.asked(3)
        calls = []

        def by(letters):
            calls.append(1)
            if len(calls) == 3:
                raise Stop("enough")
            return 0

        with self.assertRaises(Stop):
            world.rest(by=by)
        self.assert_exact(self.delivered(world), [0, 0])
        self.assert_exact(world.letters(), [("ask", 3, 0, 0), ("answer", 1), ("answer", 2)])

    def test_afterwards_the_world_is_not_busy(self):
        world = self.asked(1)

        def by(letters):
            raise Stop()

        for again in range(2):
            with self.assertRaises(Stop):
                world.rest(by=by)
        world.make("ann", "y", 0)
        self.assertEqual(world.rest(by=lambda letters: 0), 2)
        world.make("ann", "z", 0)

    def test_in_a_trial_it_is_as_before_all_the_same(self):
        world = self.asked(2)
        before = self.view(world)
        calls = []

        def by(letters):
            calls.append(1)
            if len(calls) == 2:
                raise Stop()
            return 0

        with self.assertRaises(Stop):
            world.trial(lambda world: world.rest(by=by))
        self.assertEqual(self.view(world), before)
        self.assertEqual(world.rest(), 4)


class BusyTest(WorldCase):
    def calls(self, world):
        """Return calls of all events and of rest, right ones and wrong ones."""
        wrong = [None, True, 0, "", "nope", -1, [], ("x",)]
        calls = [
            lambda: world.make("ann", "y", 0), lambda: world.ask("ann", "x", ("get",)),
            lambda: world.ask("ann", "x", ("take", "b"), gift="x"), lambda: world.ask("ann", "x", ("make",), target="y"),
            lambda: world.share("ann", "x", "y"), lambda: world.drop("ann", "x"), lambda: world.send("ann", "x", "bob", "y"),
            lambda: world.move(0, 0, 1), lambda: world.tidy(0, 0, "b"), lambda: world.look(), lambda: world.deliver(),
            lambda: world.deliver(0), lambda: world.deliver(10 ** 9), lambda: world.rest(),
            lambda: world.rest(by=lambda letters: 0), lambda: world.rest(by=self.fail),
        ]
        for value in wrong:
            calls.extend([
                lambda value=value: world.make(value, value, value), lambda value=value: world.ask(value, value, value),
                lambda value=value: world.ask("ann", "x", ("get",), gift=value, target=value),
                lambda value=value: world.share(value, value, value), lambda value=value: world.drop(value, value),
                lambda value=value: world.send(value, value, value, value), lambda value=value: world.move(value, value, value),
                lambda value=value: world.tidy(value, value, value), lambda value=value: world.deliver(value),
            ])
        return calls

    def busy_world(self):
        world = self.boxed()
        world.ask("ann", "x", ("get",))
        return world

    def test_the_events_and_rest_raise_busy_before_all_other_errors(self):
        world = self.busy_world()

        def by(letters):
            before = self.view(world)
            for call in self.calls(world):
                self.assert_raises(Busy, None, None, call)
            self.assertEqual(self.view(world), before)
            return 0

        self.assertEqual(world.rest(by=by), 2)
        self.assertEqual(len(world.history()), 6 + 2)

    def test_in_a_trial_too(self):
        world = self.busy_world()
        calls = []

        def inner(trial):
            self.assertIs(trial, world)
            for call in self.calls(world):
                self.assert_raises(Busy, None, None, call)
            return "done"

        def by(letters):
            before = self.view(world)
            self.assertEqual(world.trial(inner), "done")
            self.assertEqual(world.trial(lambda world: world.trial(inner)), "done")
            self.assert_raises(Busy, None, None, world.make, "ann", "y", 0)
            self.assert_raises(Busy, None, None, world.trial, lambda world: world.look())
            self.assert_raises(Busy, None, None, world.look)
            self.assertEqual(self.view(world), before)
            calls.append(1)
            return 0

        world.rest(by=by)
        self.assertEqual(len(calls), 2)
        world.look()

    def test_within_rest_within_a_trial(self):
        world = self.busy_world()

        def by(letters):
            self.assert_raises(Busy, None, None, world.make, "ann", "y", 0)
            self.assert_raises(Busy, None, None, world.trial, lambda world: world.rest())
            return 0

        def function(world):
            world.make("ann", "q", 2)
            count = world.rest(by=by)
            world.make("ann", "r", 2)
            return count

        self.assertEqual(world.trial(function), 2)
        self.assertEqual(world.names("ann"), ["x", "y"])
        self.assertEqual(world.rest(), 2)

    def test_busy_that_is_not_caught_propagates(self):
        world = self.busy_world()
        self.assert_raises(Busy, None, None, world.rest, by=lambda letters: world.deliver())
        self.assertEqual(len(world), 1)
        self.assert_raises(Busy, None, None, world.rest, by=lambda letters: world.rest())
        self.assertEqual(world.rest(), 2)

    def test_questions_may_be_asked(self):
        world = self.busy_world()
        told = []

        def by(letters):
            told.append((world.letters(), world.names("ann"), world.address("ann", "x"), world.slots(0), world.inside(0, 0),
                         world.log(), world.history(), world.answer(1), len(world), repr(world), str(world), world == world,
                         trail_from(world, 0, 0), notes_ahead(world, "ann", "x"), notes_passed(world, 1)))
            self.assert_raises(NoHand, "hand", "cat", world.names, "cat")
            return 0

        world.rest(by=by)
        self.assertEqual(len(told), 2)
        self.assertEqual(told[0][8:10], (1, "World(3, 6)"))

    def test_another_world_is_not_busy(self):
        world = self.busy_world()
        other = self.busy_world()

        def by(letters):
            other.look()
            return other.rest()

        world.rest(by=by)
        self.assert_raises(NoLetter, "place", 0, other.deliver)

    def test_a_trial_in_by_without_events_leaves_the_choice(self):
        world = self.busy_world()
        world.ask("ann", "x", ("add", 5))
        world.rest(by=lambda letters: world.trial(lambda world: len(world.letters()) - 1))
        self.assertEqual((world.answer(2), world.answer(3)), (5, 5))


if __name__ == "__main__":
    unittest.main()

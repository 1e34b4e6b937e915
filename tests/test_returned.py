"""Point 2: each list and dict that is returned is new, and spoiling it changes nothing; nor does changing what was passed in."""

import unittest

from tests.cases import WorldCase
from trailparts.histories import played, read_history
from trailparts.onehouse import as_if
from trailparts.papers import paper_of
from trailparts.trails import trail_from
from trailparts.weights import holders
from trailparts.worlds import World


def spoil(value):
    """Change all lists and dicts in a value that can be changed."""
    if isinstance(value, (list, tuple)):
        for item in value:
            spoil(item)
    if isinstance(value, dict):
        for item in value.values():
            spoil(item)
        value.clear()
        value["spoiled"] = True
    if isinstance(value, list):
        value.clear()
        value.append("spoiled")


class ReturnedTest(WorldCase):
    def full_world(self):
        world = self.boxed()
        world.make("bob", "z", 2)
        world.make("bob", "u", 2)
        world.move(2, 0, 0)
        world.rest()
        world.move(2, 1, 1)
        world.ask("bob", "u", ("get",))
        world.deliver(1)
        world.ask("ann", "x", ("boxes",))
        world.look()
        return world

    def questions(self, world):
        return [
            world.letters, world.log, world.history, lambda: world.names("ann"), lambda: world.slots(0),
            lambda: world.slots(2), lambda: world.inside(0, 0), lambda: world.inside(2, 0), lambda: world.inside(2, 1),
            lambda: world.address("ann", "x"), lambda: trail_from(world, 2, 0), lambda: as_if(["ann", "bob"], world.log()),
            lambda: holders(world, 0, 0), lambda: holders(world, 2, 1), lambda: paper_of(world, 1, 0),
            lambda: read_history(str(world)), lambda: played(3, ["ann", "bob"], world.history()).log(),
        ]

    def test_spoiling_changes_nothing(self):
        world = self.full_world()
        before = self.view(world)
        for question in self.questions(world):
            first = question()
            second = question()
            self.assert_exact(first, second)
            spoil(first)
            self.assert_exact(question(), second)
            self.assertEqual(self.view(world), before)
        world.rest()
        other = self.full_world()
        other.rest()
        self.assertEqual(self.view(world), self.view(other))

    def test_no_later_call_changes_what_was_returned(self):
        world = self.full_world()
        kept = [question() for question in self.questions(world)]
        again = [question() for question in self.questions(world)]
        world.rest()
        world.tidy(0, 0, "b")
        world.move(0, 0, 1)
        world.ask("ann", "x", ("clear", "b"))
        world.drop("ann", "x")
        world.rest()
        self.assert_exact(kept, again)

    def test_lists_are_lists_and_the_boxes_a_dict(self):
        world = self.full_world()
        for question in self.questions(world)[:6]:
            self.assertIs(question().__class__, list)
        self.assertIs(world.inside(0, 0)[2].__class__, dict)
        self.assertIs(trail_from(world, 0, 0).__class__, list)
        for row in world.letters() + world.log() + world.history() + world.slots(0) + trail_from(world, 2, 0):
            self.assertIs(row.__class__, tuple)

    def test_the_list_that_by_gets_is_new(self):
        world = self.full_world()
        seen = []

        def by(letters):
            self.assertFalse(any(letters is other for other in seen))
            seen.append(letters)
            spoil(letters)
            return 0

        world.rest(by=by)
        other = self.full_world()
        other.rest()
        self.assertEqual(self.view(world), self.view(other))

    def test_the_log_that_as_if_gets_is_not_kept(self):
        world = self.full_world()
        log = world.log()
        answers = as_if(["ann", "bob"], log)
        spoil(log)
        self.assert_exact(answers, [(1, False)])

    def test_what_a_trial_returns_stays(self):
        world = self.full_world()
        told = world.trial(lambda world: (world.rest(), world.inside(0, 0), world.log())[1:])
        kept = world.trial(lambda world: (world.rest(), world.inside(0, 0), world.log())[1:])
        world.rest()
        world.ask("ann", "x", ("clear", "b"))
        world.rest()
        self.assert_exact(told, kept)

    def test_worlds_share_no_state(self):
        one = self.full_world()
        other = self.full_world()
        before = self.view(other)
        one.rest()
        one.drop("ann", "x")
        one.trial(lambda world: world.rest())
        one.look()
        self.assertEqual(self.view(other), before)
        self.assertEqual(World(3, ["ann", "bob"]).history(), [])


if __name__ == "__main__":
    unittest.main()

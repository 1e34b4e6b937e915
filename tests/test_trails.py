"""Point 17, with the interface of trailparts/trails.py."""

import unittest

from tests.cases import WorldCase
from trailparts.trails import notes_ahead, notes_passed, trail_from
from trailparts.worlds import World


class TrailTest(WorldCase):
    def test_an_object_that_never_moved(self):
        world = self.new_world()
        world.make("ann", "w", 1)
        world.make("ann", "x", 1)
        self.assert_exact(trail_from(world, 1, 1), [(1, 1)])
        self.assert_exact(notes_ahead(world, "ann", "x"), 0)

    def test_under_way_delivered_and_noted(self):
        world = self.new_world()
        world.make("ann", "w", 2)
        world.make("ann", "x", 0)
        world.move(0, 0, 2)
        self.assert_exact(trail_from(world, 0, 0), [(0, 0)])
        self.assert_exact(notes_ahead(world, "ann", "x"), 1)
        self.deliver_kind(world, "object")
        self.assert_exact(trail_from(world, 0, 0), [(0, 0), (2, 1)])
        self.assert_exact(trail_from(world, 2, 1), [(2, 1)])
        self.assert_exact(notes_ahead(world, "ann", "x"), 1)
        self.deliver_kind(world, "reply")
        self.assert_exact(trail_from(world, 0, 0), [(0, 0), (2, 1)])
        self.assert_exact(notes_ahead(world, "ann", "x"), 1)
        self.assert_exact(trail_from(world, 2, 0), [(2, 0)])

    def test_through_all_kinds_of_slots(self):
        world = self.new_world()
        world.make("ann", "x", 0)
        world.move(0, 0, 1)
        world.rest()
        world.move(1, 0, 2)
        world.share("ann", "x", "y")
        self.deliver_kind(world, "object")
        world.move(2, 0, 0)
        self.assert_exact([[row[1:3] for row in world.slots(house)] for house in range(3)],
                          [[("note", 0)], [("departing", 1)], [("departing", 2)]])
        self.assert_exact(trail_from(world, 0, 0), [(0, 0), (1, 0), (2, 0)])
        self.assert_exact(trail_from(world, 1, 0), [(1, 0), (2, 0)])
        self.assert_exact(trail_from(world, 2, 0), [(2, 0)])
        self.assert_exact(notes_ahead(world, "ann", "y"), 3)
        self.deliver_kind(world, "object")
        self.assert_exact(trail_from(world, 0, 0), [(0, 0), (1, 0), (2, 0), (0, 1)])
        self.assert_exact(notes_ahead(world, "ann", "y"), 3)
        world.rest(by=lambda letters: -1)
        self.assert_exact(trail_from(world, 0, 0), [(0, 0), (1, 0), (2, 0), (0, 1)])

    def test_from_the_middle_less_is_ahead(self):
        world = World(4, ["ann", "bob"])
        world.make("ann", "x", 0)
        world.move(0, 0, 1)
        world.rest()
        world.ask("ann", "x", ("get",), gift=None)
        world.share("ann", "x", "y")
        self.deliver_kind(world, "ask")
        self.deliver_kind(world, "ask")
        self.deliver_kind(world, "answer")
        world.move(1, 0, 2)
        self.assert_exact((notes_ahead(world, "ann", "x"), notes_ahead(world, "ann", "y")), (1, 2))
        world.rest()
        world.move(2, 0, 3)
        world.rest()
        self.assert_exact((notes_ahead(world, "ann", "x"), notes_ahead(world, "ann", "y")), (2, 3))
        for name, passed in [("x", 2), ("y", 3)]:
            ticket = world.ask("ann", name, ("get",))
            world.rest()
            self.assert_exact(notes_passed(world, ticket), passed)
            self.assert_exact(notes_ahead(world, "ann", name), 0)

    def test_a_slot_that_is_taken_again_has_a_trail_of_its_own(self):
        world = self.new_world()
        world.make("ann", "x", 0)
        world.move(0, 0, 1)
        world.rest()
        world.ask("ann", "x", ("get",))
        world.rest()
        self.assertEqual(world.slots(0), [])
        world.make("ann", "y", 0)
        self.assert_exact(trail_from(world, 0, 0), [(0, 0)])
        self.assert_exact((notes_ahead(world, "ann", "y"), notes_ahead(world, "ann", "x")), (0, 0))


class PassedTest(WorldCase):
    def test_before_and_while_and_after(self):
        world = self.new_world()
        world.make("ann", "x", 0)
        world.move(0, 0, 1)
        world.rest()
        world.move(1, 0, 2)
        ticket = world.ask("ann", "x", ("get",))
        self.assert_exact(notes_passed(world, ticket), 0)
        self.deliver_told(world, ("ask", 1, 0, 0))
        self.assert_exact(notes_passed(world, ticket), 1)
        self.deliver_told(world, ("ask", 1, 1, 0))
        self.assert_exact(world.inside(1, 0), ("departing", 1))
        self.assert_exact(notes_passed(world, ticket), 1)
        self.deliver_kind(world, "object")
        self.assert_exact(notes_passed(world, ticket), 1)
        self.deliver_kind(world, "reply")
        self.assert_exact(notes_passed(world, ticket), 2)
        world.rest()
        self.assert_exact(notes_passed(world, ticket), 2)
        world.move(2, 0, 0)
        world.rest()
        self.assert_exact(notes_passed(world, ticket), 2)

    def test_each_ask_has_its_own(self):
        world = self.new_world()
        world.make("ann", "x", 0)
        world.ask("ann", "x", ("get",))
        world.rest()
        world.move(0, 0, 1)
        world.rest()
        world.ask("ann", "x", ("get",))
        world.ask("ann", "x", ("get",))
        self.deliver_told(world, ("ask", 3, 0, 0))
        self.assert_exact([notes_passed(world, ticket) for ticket in [1, 2, 3]], [0, 0, 1])

    def test_seeks_do_not_count(self):
        world = self.boxed()
        world.move(1, 0, 2)
        world.rest()
        world.tidy(0, 0, "b")
        world.rest()
        self.assert_exact(notes_passed(world, 1), 0)

    def test_arguments_by_name(self):
        world = self.boxed()
        self.assertEqual(trail_from(world=world, house=1, number=0), [(1, 0)])
        self.assertEqual(notes_ahead(world=world, hand="ann", name="x"), 0)
        self.assertEqual(notes_passed(world=world, ticket=1), 0)


if __name__ == "__main__":
    unittest.main()

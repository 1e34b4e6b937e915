"""Points 12 and 16: when a slot is freed, and what goes back then."""

import unittest

from tests.cases import WorldCase


class ByABackTest(WorldCase):
    def test_a_back_that_does_not_fill_the_purse(self):
        world = self.new_world()
        world.make("ann", "x", 0)
        world.share("ann", "x", "y")
        world.drop("ann", "x")
        world.deliver()
        self.assert_exact(world.slots(0), [(0, "object", 0, (1, 2))])

    def test_an_object_is_gone_with_the_back_that_fills_the_purse(self):
        world = self.new_world()
        world.make("ann", "x", 0)
        world.share("ann", "x", "y")
        world.share("ann", "x", "z")
        for name in ["x", "z", "y"]:
            world.drop("ann", name)
        self.deliver_told(world, ("back", 0, 0, (1, 4)))
        self.deliver_told(world, ("back", 0, 0, (1, 2)))
        self.assert_exact(world.slots(0), [(0, "object", 0, (3, 4))])
        self.deliver_told(world, ("back", 0, 0, (1, 4)))
        self.assertEqual(world.slots(0), [])
        self.assertEqual(world.letters(), [])

    def test_never_while_a_part_is_borne_by_a_letter(self):
        world = self.new_world()
        world.make("ann", "x", 0)
        world.ask("ann", "x", ("add", 1))
        world.send("ann", "x", "bob", "x")
        world.drop("ann", "x")
        self.deliver_kind(world, "back")
        self.assert_exact(world.slots(0), [(0, "object", 0, (1, 4))])
        self.deliver_kind(world, "ask")
        self.deliver_kind(world, "answer")
        self.deliver_kind(world, "back")
        self.assert_exact(world.slots(0), [(0, "object", 0, (3, 4))])
        world.rest()
        world.drop("bob", "x")
        world.rest()
        self.assertEqual(world.slots(0), [])

    def test_the_addresses_in_the_boxes_go_back_in_ascending_order_of_the_names(self):
        world = self.new_world()
        world.make("ann", "x", 0)
        order = ["c", "ab", "into", "a", "b"]
        for at, box in enumerate(order):
            world.make("ann", "y", 1)
            self.assertEqual(world.address("ann", "y")[1], at)
            world.ask("ann", "x", ("take", box), gift="y")
            world.rest()
        world.drop("ann", "x")
        world.deliver()
        self.assertEqual(world.slots(0), [])
        self.assert_exact(world.letters(), [("back", 1, order.index(box), (1, 2)) for box in sorted(order)])

    def test_then_what_was_in_the_boxes_is_freed(self):
        world = self.boxed()
        world.drop("ann", "x")
        world.drop("ann", "y")
        world.rest()
        self.assertEqual([world.slots(house) for house in range(3)], [[], [], []])

    def test_a_note(self):
        world = self.new_world()
        world.make("ann", "x", 0)
        world.move(0, 0, 1)
        world.rest()
        world.drop("ann", "x")
        world.deliver()
        self.assertEqual(world.slots(0), [])
        self.assert_exact(world.letters(), [("back", 1, 0, (1, 1))])
        world.deliver()
        self.assertEqual(world.slots(1), [])
        self.assertEqual(world.letters(), [])

    def test_a_note_of_which_copies_were_taken(self):
        world = self.new_world()
        world.make("ann", "x", 0)
        world.move(0, 0, 1)
        world.rest()
        world.ask("ann", "x", ("get",))
        world.deliver()
        world.drop("ann", "x")
        self.deliver_told(world, ("back", 0, 0, (1, 2)))
        self.assertEqual(world.slots(0), [])
        self.assert_exact(world.letters(), [("ask", 1, 1, 0), ("back", 1, 0, (1, 2))])

    def test_an_object_that_holds_itself_is_not_freed(self):
        world = self.new_world()
        world.make("ann", "x", 0)
        world.ask("ann", "x", ("take", "b"), gift="x")
        world.rest()
        world.drop("ann", "x")
        world.rest()
        self.assert_exact(world.slots(0), [(0, "object", 0, (3, 4))])


class DepartingTest(WorldCase):
    def test_a_departing_slot_is_not_freed_by_a_back(self):
        world = self.boxed()
        world.move(0, 0, 2)
        world.drop("ann", "x")
        self.deliver_kind(world, "back")
        self.assert_exact(world.slots(0), [(0, "departing", 0, (1, 1))])
        self.assert_exact(world.inside(0, 0), ("departing", 0))
        self.deliver_kind(world, "object")
        self.assert_exact(world.slots(0), [(0, "departing", 0, (1, 1))])
        self.assert_exact(world.slots(2), [(0, "object", 1, (0, 1))])
        self.deliver_kind(world, "reply")
        self.assertEqual(world.slots(0), [])
        self.assert_exact(world.letters(), [("back", 2, 0, (1, 1))])
        world.deliver()
        self.assertEqual(world.slots(2), [])
        self.assert_exact(world.letters(), [("back", 1, 0, (1, 2))])

    def test_its_number_is_not_taken_meanwhile(self):
        world = self.new_world()
        world.make("ann", "x", 0)
        world.move(0, 0, 1)
        world.drop("ann", "x")
        self.deliver_kind(world, "back")
        world.make("ann", "y", 0)
        self.assertEqual(world.address("ann", "y")[:2], (0, 1))
        world.rest()
        world.make("ann", "z", 0)
        self.assertEqual(world.address("ann", "z")[:2], (0, 0))

    def test_the_object_moved_on_when_the_address_of_the_reply_goes_back(self):
        world = self.new_world()
        world.make("ann", "x", 0)
        world.move(0, 0, 1)
        world.drop("ann", "x")
        self.deliver_kind(world, "object")
        world.move(1, 0, 2)
        world.rest()
        self.assertEqual([world.slots(house) for house in range(3)], [[], [], []])


class ReuseTest(WorldCase):
    def test_the_least_free_number_is_taken_next_by_objects_that_come_too(self):
        world = self.new_world()
        for name in ["a", "b", "c"]:
            world.make("ann", name, 0)
        world.make("ann", "x", 1)
        world.drop("ann", "b")
        world.rest()
        world.move(1, 0, 0)
        world.deliver()
        self.assert_exact([row[:3] for row in world.slots(0)], [(0, "object", 0), (1, "object", 1), (2, "object", 0)])
        world.drop("ann", "a")
        self.deliver_kind(world, "back")
        world.ask("ann", "c", ("make",), target="t")
        self.deliver_kind(world, "ask")
        self.assert_exact([row[0] for row in world.slots(0)], [0, 1, 2])
        self.object_at(world, 0, 0, {})

    def test_a_freed_slot_that_is_taken_again_has_an_age_and_a_purse_of_its_own(self):
        world = self.new_world()
        world.make("ann", "x", 1)
        world.move(1, 0, 0)
        world.rest()
        world.ask("ann", "x", ("add", 8))
        world.drop("ann", "x")
        world.rest()
        world.make("ann", "y", 0)
        self.assert_exact(world.address("ann", "y"), (0, 0, 0, (1, 1)))
        self.assert_exact(world.slots(0), [(0, "object", 0, (0, 1))])
        self.object_at(world, 0, 0, {})


if __name__ == "__main__":
    unittest.main()

"""Point 9: what hands do; points 5 to 7: slots, copies, settings; and how tickets and gifts are numbered."""

import unittest

from tests.cases import WorldCase
from trailparts.worlds import World


class MakeTest(WorldCase):
    def test_a_new_object_with_the_whole(self):
        world = self.new_world()
        for house in range(3):
            self.assertIsNone(world.make("ann", "x", house))
            self.assert_exact(world.address("ann", "x"), (house, 0, 0, (1, 1)))
            self.assert_exact(world.slots(house), [(0, "object", 0, (0, 1))])
            self.object_at(world, house, 0, {})

    def test_the_free_slot_with_the_least_number(self):
        world = self.new_world()
        for at, name in enumerate(["a", "b", "c", "d"]):
            world.make("bob", name, 1)
            self.assertEqual(world.address("bob", name)[:2], (1, at))
        world.drop("bob", "b")
        world.drop("bob", "a")
        world.make("bob", "e", 1)
        self.assertEqual(world.address("bob", "e")[1], 4)
        world.deliver()
        world.make("bob", "f", 1)
        self.assertEqual(world.address("bob", "f")[1], 1)
        world.deliver()
        world.make("bob", "g", 1)
        self.assertEqual(world.address("bob", "g")[1], 0)
        world.make("bob", "h", 1)
        self.assertEqual(world.address("bob", "h")[1], 5)

    def test_what_the_variable_held_goes_back(self):
        world = self.new_world()
        world.make("ann", "x", 2)
        world.share("ann", "x", "y")
        world.make("ann", "x", 2)
        self.assert_exact(world.letters(), [("back", 2, 0, (1, 2))])
        self.assert_exact(world.address("ann", "x"), (2, 1, 0, (1, 1)))
        world.deliver()
        self.assert_exact(world.slots(2)[0], (0, "object", 0, (1, 2)))

    def test_the_same_slot_is_not_taken_before_the_back_is_delivered(self):
        world = self.new_world()
        world.make("ann", "x", 2)
        world.make("ann", "x", 2)
        self.assertEqual(world.address("ann", "x")[:2], (2, 1))
        world.rest()
        self.assert_exact(world.slots(2), [(1, "object", 0, (0, 1))])


class AskTest(WorldCase):
    def test_tickets_in_the_order_of_all_asks(self):
        world = self.new_world()
        world.make("ann", "x", 0)
        world.make("bob", "y", 2)
        self.assert_exact(world.ask("ann", "x", ("get",)), 1)
        self.assert_exact(world.ask("bob", "y", ("get",)), 2)
        world.rest()
        self.assert_exact(world.ask("ann", "x", ("make",), target="z"), 3)
        self.assert_exact(world.letters(), [("ask", 3, 0, 0)])

    def test_half_of_the_part_goes_with_the_ask(self):
        world = self.new_world()
        world.make("ann", "x", 1)
        for bottom in [2, 4, 8]:
            world.ask("ann", "x", ("get",))
            self.assert_exact(world.address("ann", "x"), (1, 0, 0, (1, bottom)))
        self.assert_exact(world.letters(), [("ask", ticket, 1, 0) for ticket in [1, 2, 3]])

    def test_the_gift_is_a_copy_too(self):
        world = self.new_world()
        world.make("ann", "x", 0)
        world.make("ann", "y", 1)
        world.ask("ann", "x", ("take", "b"), gift="y")
        self.assert_exact(world.address("ann", "x"), (0, 0, 0, (1, 2)))
        self.assert_exact(world.address("ann", "y"), (1, 0, 0, (1, 2)))
        world.deliver()
        self.object_at(world, 0, 0, {"b": (1, 0, 0, (1, 2))})

    def test_the_gift_of_the_same_variable_is_the_second_copy(self):
        world = self.new_world()
        world.make("ann", "x", 0)
        world.ask("ann", "x", ("take", "b"), gift="x")
        self.assert_exact(world.address("ann", "x"), (0, 0, 0, (1, 4)))
        world.deliver()
        self.object_at(world, 0, 0, {"b": (0, 0, 0, (1, 4))})
        world.deliver()
        self.assert_exact(world.address("ann", "x"), (0, 0, 0, (3, 4)))


class ShareTest(WorldCase):
    def test_both_have_half(self):
        world = self.new_world()
        world.make("ann", "x", 0)
        self.assertIsNone(world.share("ann", "x", "y"))
        self.assert_exact(world.address("ann", "x"), (0, 0, 0, (1, 2)))
        self.assert_exact(world.address("ann", "y"), (0, 0, 0, (1, 2)))
        self.assertEqual(world.letters(), [])

    def test_what_the_other_held_goes_back(self):
        world = self.new_world()
        world.make("ann", "x", 0)
        world.make("ann", "y", 1)
        world.share("ann", "x", "y")
        self.assert_exact(world.letters(), [("back", 1, 0, (1, 1))])
        self.assert_exact(world.address("ann", "y"), (0, 0, 0, (1, 2)))

    def test_with_the_same_name_the_half_that_stayed_goes_back(self):
        world = self.new_world()
        world.make("ann", "x", 0)
        world.share("ann", "x", "x")
        self.assert_exact(world.address("ann", "x"), (0, 0, 0, (1, 2)))
        self.assert_exact(world.letters(), [("back", 0, 0, (1, 2))])
        world.rest()
        self.assert_exact(world.slots(0), [(0, "object", 0, (1, 2))])

    def test_with_the_same_name_it_is_a_new_setting(self):
        world = self.new_world()
        world.make("ann", "x", 0)
        world.ask("ann", "x", ("get",))
        world.share("ann", "x", "x")
        world.rest()
        self.assert_exact(world.address("ann", "x"), (0, 0, 0, (1, 4)))
        self.assert_exact(world.slots(0), [(0, "object", 0, (3, 4))])

    def test_the_variable_that_is_shared_keeps_its_setting(self):
        world = self.new_world()
        world.make("ann", "x", 0)
        world.ask("ann", "x", ("get",))
        world.share("ann", "x", "y")
        world.rest()
        self.assert_exact(world.address("ann", "x"), (0, 0, 0, (3, 4)))


class DropTest(WorldCase):
    def test_the_variable_is_removed_and_its_address_goes_back(self):
        world = self.new_world()
        world.make("ann", "x", 1)
        world.share("ann", "x", "y")
        self.assertIsNone(world.drop("ann", "x"))
        self.assertEqual(world.names("ann"), ["y"])
        self.assert_exact(world.letters(), [("back", 1, 0, (1, 2))])

    def test_only_of_this_hand(self):
        world = self.new_world()
        world.make("ann", "x", 1)
        world.make("bob", "x", 1)
        world.drop("ann", "x")
        self.assertEqual((world.names("ann"), world.names("bob")), ([], ["x"]))
        self.assert_exact(world.letters(), [("back", 1, 0, (1, 1))])


class SendTest(WorldCase):
    def test_a_copy_goes_to_the_other_hand(self):
        world = self.new_world()
        world.make("ann", "x", 1)
        self.assertIsNone(world.send("ann", "x", "bob", "y"))
        self.assert_exact(world.letters(), [("gift", "bob", "y")])
        self.assert_exact(world.address("ann", "x"), (1, 0, 0, (1, 2)))
        self.assertEqual(world.names("bob"), [])
        world.deliver()
        self.assert_exact(world.address("bob", "y"), (1, 0, 0, (1, 2)))
        self.assertEqual(len(world), 0)

    def test_to_the_same_hand_and_the_same_variable(self):
        world = self.new_world()
        world.make("ann", "x", 1)
        world.send("ann", "x", "ann", "x")
        world.deliver()
        self.assert_exact(world.address("ann", "x"), (1, 0, 0, (1, 2)))
        self.assert_exact(world.letters(), [("back", 1, 0, (1, 2))])

    def test_gifts_are_numbered_as_they_are_sent(self):
        world = self.new_world()
        world.make("ann", "x", 1)
        world.send("ann", "x", "bob", "a")
        world.send("ann", "x", "ann", "b")
        world.ask("ann", "x", ("get",))
        world.send("ann", "x", "bob", "c")
        for told in [("gift", "bob", "c"), ("gift", "bob", "a"), ("gift", "ann", "b")]:
            self.deliver_told(world, told)
        self.assertEqual(world.log()[-3:], [("given", 3), ("given", 1), ("given", 2)])

    def test_a_gift_that_comes_sets_the_variable_anew(self):
        world = self.new_world()
        world.make("ann", "x", 0)
        world.make("bob", "y", 1)
        world.ask("bob", "y", ("get",))
        world.send("ann", "x", "bob", "y")
        self.deliver_kind(world, "gift")
        self.assert_exact(world.address("bob", "y"), (0, 0, 0, (1, 2)))
        self.assert_exact(world.letters(), [("ask", 1, 1, 0), ("back", 1, 0, (1, 2))])
        world.rest()
        self.assert_exact(world.address("bob", "y"), (0, 0, 0, (1, 2)))
        self.assertEqual(world.slots(1), [])

    def test_the_variable_was_dropped_before_the_gift_came(self):
        world = self.new_world()
        world.make("ann", "x", 0)
        world.make("bob", "y", 1)
        world.send("ann", "x", "bob", "y")
        world.drop("bob", "y")
        world.drop("ann", "x")
        world.rest()
        self.assert_exact(world.address("bob", "y"), (0, 0, 0, (1, 2)))
        self.assert_exact(world.slots(0), [(0, "object", 0, (1, 2))])
        self.assertEqual(world.slots(1), [])


class ManyCopiesTest(WorldCase):
    def test_parts_stay_exact_however_small(self):
        world = World(1, ["ann"])
        world.make("ann", "x", 0)
        for step in range(200):
            world.share("ann", "x", "y")
        self.assert_exact(world.address("ann", "x"), (0, 0, 0, (1, 2 ** 200)))
        world.rest()
        self.assert_exact(world.slots(0), [(0, "object", 0, (2 ** 199 - 1, 2 ** 199))])
        world.drop("ann", "x")
        world.rest()
        self.assert_exact(world.slots(0), [(0, "object", 0, (2 ** 200 - 1, 2 ** 200))])
        world.drop("ann", "y")
        world.rest()
        self.assertEqual(world.slots(0), [])


if __name__ == "__main__":
    unittest.main()

"""Points 13 to 15: moves, departing slots, asks and seeks that wait, how a note is passed."""

import unittest

from tests.cases import WorldCase
from trailparts.trails import notes_passed
from trailparts.worlds import World


class MoveTest(WorldCase):
    def test_departing_object_reply_note(self):
        world = self.boxed()
        world.ask("ann", "x", ("add", 9))
        world.rest()
        self.assertIsNone(world.move(0, 0, 2))
        self.assert_exact(world.slots(0), [(0, "departing", 0, (0, 1))])
        self.assert_exact(world.inside(0, 0), ("departing", 0))
        self.assertEqual(world.slots(2), [])
        self.assert_exact(world.deliver(), ("object", 0, 0, 2))
        self.assert_exact(world.slots(2), [(0, "object", 1, (0, 1))])
        self.object_at(world, 2, 0, {"b": (1, 0, 0, (1, 2))}, told=9)
        self.assert_exact(world.inside(0, 0), ("departing", 0))
        self.assert_exact(world.deliver(), ("reply", 0, 0))
        self.assert_exact(world.slots(0), [(0, "note", 0, (0, 1))])
        self.assert_exact(world.inside(0, 0), ("note", (2, 0, 1, (1, 1))))
        self.assertEqual(len(world), 0)

    def test_the_slot_is_taken_when_the_object_is_delivered(self):
        world = self.new_world()
        world.make("ann", "x", 0)
        world.make("ann", "y", 1)
        world.move(0, 0, 1)
        world.drop("ann", "y")
        self.deliver_kind(world, "back")
        self.deliver_kind(world, "object")
        self.assert_exact(world.slots(1), [(0, "object", 1, (0, 1))])

    def test_the_purse_of_the_departing_slot_stays_and_grows(self):
        world = self.new_world()
        world.make("ann", "x", 0)
        world.share("ann", "x", "y")
        world.drop("ann", "y")
        world.rest()
        world.move(0, 0, 1)
        self.assert_exact(world.slots(0), [(0, "departing", 0, (1, 2))])
        world.share("ann", "x", "y")
        world.drop("ann", "y")
        self.deliver_kind(world, "back")
        self.assert_exact(world.slots(0), [(0, "departing", 0, (3, 4))])
        world.rest()
        self.assert_exact(world.slots(0), [(0, "note", 0, (3, 4))])

    def test_ages_rise_by_1_and_a_house_may_be_met_again(self):
        world = World(2, ["ann"])
        world.make("ann", "x", 0)
        for age, (house, number, to) in enumerate([(0, 0, 1), (1, 0, 0), (0, 1, 1), (1, 1, 0)]):
            world.move(house, number, to)
            world.rest()
            self.assertEqual(world.slots(house)[number][1:3], ("note", age))
        self.assert_exact(world.slots(0), [(0, "note", 0, (0, 1)), (1, "note", 2, (0, 1)), (2, "object", 4, (0, 1))])
        self.assert_exact(world.slots(1), [(0, "note", 1, (0, 1)), (1, "note", 3, (0, 1))])
        ticket = world.ask("ann", "x", ("add", 2))
        world.rest()
        self.assertEqual((world.answer(ticket), notes_passed(world, ticket)), (2, 4))
        self.assert_exact(world.address("ann", "x"), (0, 2, 4, (1, 2)))

    def test_an_object_that_moves_again_before_the_reply_came(self):
        world = self.new_world()
        world.make("ann", "x", 0)
        world.ask("ann", "x", ("add", 3))
        world.move(0, 0, 1)
        self.deliver_kind(world, "object")
        world.move(1, 0, 0)
        self.assert_exact(world.slots(1), [(0, "departing", 1, (0, 1))])
        self.deliver_kind(world, "object")
        self.assert_exact(world.slots(0), [(0, "departing", 0, (0, 1)), (1, "object", 2, (0, 1))])
        self.assert_exact(world.letters(), [("ask", 1, 0, 0), ("reply", 0, 0), ("reply", 1, 0)])
        world.rest(by=lambda letters: -1)
        self.assert_exact((world.answer(1), notes_passed(world, 1)), (3, 2))
        self.assert_exact(world.address("ann", "x")[:3], (0, 1, 2))

    def test_back_into_the_same_slot(self):
        world = self.new_world()
        world.make("ann", "x", 0)
        world.make("ann", "y", 1)
        world.ask("ann", "x", ("take", "b"), gift="x")
        world.rest()
        world.move(0, 0, 2)
        world.drop("ann", "x")
        world.rest()
        world.tidy(2, 0, "b")
        world.rest()
        self.assertEqual(world.slots(0), [])
        world.move(2, 0, 0)
        world.rest()
        self.assert_exact([row[:3] for row in world.slots(0)], [(0, "object", 2)])


class WaitingTest(WorldCase):
    def moving(self, times):
        """Return a world in which so many asks were delivered to a departing slot: 1 for add 1, 2 for add 10, .."""
        world = self.new_world()
        world.make("ann", "x", 0)
        world.move(0, 0, 1)
        for ticket in range(1, times + 1):
            world.ask("ann", "x", ("add", 10 ** (ticket - 1)))
        for ticket in range(1, times + 1):
            self.deliver_told(world, ("ask", ticket, 0, 0))
            self.assert_exact(world.inside(0, 0), ("departing", ticket))
        return world

    def test_those_that_wait_are_no_longer_under_way(self):
        world = self.moving(3)
        self.assert_exact(world.letters(), [("object", 0, 0, 1)])
        world.deliver()
        self.assert_exact(world.letters(), [("reply", 0, 0)])
        self.assert_exact(world.inside(0, 0), ("departing", 3))
        self.assertEqual([notes_passed(world, ticket) for ticket in [1, 2, 3]], [0, 0, 0])

    def test_they_go_on_in_the_order_in_which_they_came(self):
        world = self.new_world()
        world.make("ann", "x", 0)
        world.move(0, 0, 1)
        for ticket in range(1, 5):
            world.ask("ann", "x", ("get",))
        for ticket in [3, 1, 4, 2]:
            self.deliver_told(world, ("ask", ticket, 0, 0))
        self.deliver_kind(world, "object")
        self.deliver_kind(world, "reply")
        self.assert_exact(world.letters(), [("ask", ticket, 1, 0) for ticket in [3, 1, 4, 2]])
        self.assertEqual([notes_passed(world, ticket) for ticket in [1, 2, 3, 4]], [1, 1, 1, 1])

    def test_each_takes_half_of_what_the_note_still_has(self):
        world = self.moving(2)
        world.deliver()
        world.deliver()
        self.assert_exact(world.inside(0, 0), ("note", (1, 0, 1, (1, 4))))
        self.assert_exact(world.slots(0), [(0, "note", 0, (3, 4))])

    def test_one_that_comes_after_the_object_and_before_the_reply_waits_too(self):
        world = self.new_world()
        world.make("ann", "x", 0)
        world.move(0, 0, 1)
        world.ask("ann", "x", ("get",))
        self.deliver_kind(world, "object")
        self.deliver_kind(world, "ask")
        self.assert_exact(world.inside(0, 0), ("departing", 1))
        self.assert_exact(world.letters(), [("reply", 0, 0)])

    def test_asks_and_seeks_wait_together(self):
        world = self.boxed()
        world.ask("ann", "y", ("get",))
        world.tidy(0, 0, "b")
        world.ask("ann", "y", ("get",))
        world.move(1, 0, 2)
        for told in [("ask", 3, 1, 0), ("seek", 1, 0), ("ask", 2, 1, 0)]:
            self.deliver_told(world, told)
        self.assert_exact(world.inside(1, 0), ("departing", 3))
        world.deliver()
        world.deliver()
        self.assert_exact(world.letters(), [("ask", 3, 2, 0), ("seek", 2, 0), ("ask", 2, 2, 0)])

    def test_they_go_on_behind_what_is_under_way(self):
        world = self.moving(1)
        world.deliver()
        world.look()
        world.deliver(0)
        self.assert_exact(world.letters()[3:], [("ask", 1, 1, 0)])

    def test_an_ask_may_wait_at_one_departing_slot_after_the_other(self):
        world = self.moving(1)
        world.deliver()
        world.move(1, 0, 2)
        self.deliver_kind(world, "reply")
        self.deliver_told(world, ("ask", 1, 1, 0))
        self.assert_exact(world.inside(1, 0), ("departing", 1))
        world.rest()
        self.assertEqual((world.answer(1), notes_passed(world, 1)), (1, 2))

    def test_an_ask_that_waits_still_has_its_gift_and_its_target(self):
        world = self.new_world()
        world.make("ann", "x", 0)
        world.make("ann", "y", 2)
        world.move(0, 0, 1)
        world.ask("ann", "x", ("take", "b"), gift="y")
        world.ask("ann", "x", ("clone",), target="t")
        self.deliver_kind(world, "ask")
        self.deliver_kind(world, "ask")
        world.rest()
        self.assert_exact((world.answer(1), world.answer(2)), (False, True))
        self.assert_exact(world.address("ann", "t"), (1, 1, 0, (1, 1)))
        self.object_at(world, 1, 1, {"b": (2, 0, 0, (1, 4))})


class PassingTest(WorldCase):
    def noted(self):
        """Return a world in which ann's x leads to a note at (0, 0), the object is at (1, 0)."""
        world = self.new_world()
        world.make("ann", "x", 0)
        world.move(0, 0, 1)
        world.rest()
        return world

    def test_it_puts_its_part_into_the_purse_and_takes_a_copy(self):
        world = self.noted()
        world.ask("ann", "x", ("get",))
        world.deliver()
        self.assert_exact(world.slots(0), [(0, "note", 0, (1, 2))])
        self.assert_exact(world.inside(0, 0), ("note", (1, 0, 1, (1, 2))))
        self.assert_exact(world.letters(), [("ask", 1, 1, 0)])
        self.assert_exact(world.slots(1), [(0, "object", 1, (0, 1))])

    def test_if_it_fills_the_purse_it_takes_the_address_of_the_note_and_the_slot_is_freed(self):
        world = self.noted()
        world.ask("ann", "x", ("get",))
        world.drop("ann", "x")
        self.deliver_kind(world, "back")
        world.deliver()
        self.assertEqual(world.slots(0), [])
        self.assert_exact(world.letters(), [("ask", 1, 1, 0)])
        world.deliver()
        self.deliver_told(world, ("answer", 1))
        self.assert_exact(world.letters(), [("back", 1, 0, (1, 1))])
        world.deliver()
        self.assertEqual(world.slots(1), [])

    def test_a_seek_that_fills_the_purse(self):
        world = self.boxed()
        world.move(1, 0, 2)
        world.drop("ann", "y")
        world.rest()
        world.tidy(0, 0, "b")
        world.ask("ann", "x", ("clear", "b"))
        self.deliver_kind(world, "ask")
        self.deliver_kind(world, "back")
        self.deliver_told(world, ("seek", 1, 0))
        self.assertEqual(world.slots(1), [])
        self.deliver_told(world, ("seek", 2, 0))
        self.deliver_told(world, ("found", 0, 0, "b"))
        self.assert_exact(world.letters()[-1], ("back", 2, 0, (1, 1)))

    def test_the_last_of_those_that_wait_frees_the_slot(self):
        world = self.new_world()
        world.make("ann", "x", 0)
        world.ask("ann", "x", ("add", 1))
        world.ask("ann", "x", ("add", 2))
        world.drop("ann", "x")
        world.move(0, 0, 1)
        self.deliver_kind(world, "back")
        self.deliver_kind(world, "ask")
        self.deliver_kind(world, "ask")
        self.deliver_kind(world, "object")
        self.deliver_kind(world, "reply")
        self.assertEqual(world.slots(0), [])
        self.assert_exact(world.letters(), [("ask", 1, 1, 0), ("ask", 2, 1, 0)])
        world.rest()
        self.assertEqual((world.answer(1), world.answer(2), world.slots(1)), (1, 3, []))

    def test_a_note_is_passed_by_asks_in_turn_with_smaller_and_smaller_copies(self):
        world = self.noted()
        for ticket, bottom in enumerate([2, 4, 8], 1):
            world.ask("ann", "x", ("get",))
            self.deliver_told(world, ("ask", ticket, 0, 0))
            self.assert_exact(world.inside(0, 0), ("note", (1, 0, 1, (1, bottom))))
            self.assert_exact(world.slots(0), [(0, "note", 0, (bottom - 1, bottom))])

    def test_a_chain_of_notes_is_freed_one_after_the_other(self):
        world = World(4, ["ann"])
        world.make("ann", "x", 0)
        for house in range(3):
            world.move(house, 0, house + 1)
            world.rest()
        world.ask("ann", "x", ("get",))
        world.drop("ann", "x")
        world.rest(by=lambda letters: -1)
        self.assertEqual([world.slots(house) for house in range(4)], [[], [], [], []])
        self.assertEqual((world.answer(1), notes_passed(world, 1)), (0, 3))


if __name__ == "__main__":
    unittest.main()

"""Point 22: tidying."""

import unittest

from tests.cases import WorldCase


class TidyTest(WorldCase):
    def moved(self):
        """Return a world in which the object in the box of the one at (0, 0) has moved from (1, 0) to (2, 0)."""
        world = self.boxed()
        world.move(1, 0, 2)
        world.rest()
        return world

    def test_a_seek_is_sent_with_a_copy(self):
        world = self.moved()
        self.assertIsNone(world.tidy(0, 0, "b"))
        self.assert_exact(world.letters(), [("seek", 1, 0)])
        self.object_at(world, 0, 0, {"b": (1, 0, 0, (1, 4))})

    def test_the_box_is_updated(self):
        world = self.moved()
        world.tidy(0, 0, "b")
        for step in range(3):
            world.deliver()
        self.object_at(world, 0, 0, {"b": (2, 0, 1, (1, 2))})
        self.assert_exact(world.letters(), [("back", 1, 0, (1, 4))])

    def test_where_nothing_moved_the_parts_are_added_again(self):
        world = self.boxed()
        world.tidy(0, 0, "b")
        self.object_at(world, 0, 0, {"b": (1, 0, 0, (1, 4))})
        world.deliver()
        self.assert_exact(world.letters(), [("found", 0, 0, "b")])
        self.object_at(world, 0, 0, {"b": (1, 0, 0, (1, 4))})
        world.deliver()
        self.object_at(world, 0, 0, {"b": (1, 0, 0, (1, 2))})
        self.assertEqual(len(world), 0)

    def test_of_two_seeks_the_later_address_stays(self):
        world = self.boxed()
        world.tidy(0, 0, "b")
        world.deliver()
        world.move(1, 0, 2)
        world.tidy(0, 0, "b")
        self.deliver_kind(world, "object")
        self.deliver_kind(world, "reply")
        self.deliver_kind(world, "seek")
        self.deliver_kind(world, "seek")
        world.deliver(1)
        self.object_at(world, 0, 0, {"b": (2, 0, 1, (1, 2))})
        before = world.letters()
        self.deliver_told(world, ("found", 0, 0, "b"))
        self.object_at(world, 0, 0, {"b": (2, 0, 1, (1, 2))})
        self.assert_exact(world.letters(), before[1:] + [("back", 1, 0, (1, 4))])

    def test_the_log_does_not_know_of_it(self):
        world = self.moved()
        log = world.log()
        world.tidy(0, 0, "b")
        world.rest()
        self.assertEqual(world.log(), log)

    def test_a_box_that_holds_its_own_object(self):
        world = self.new_world()
        world.make("ann", "x", 0)
        world.ask("ann", "x", ("take", "b"), gift="x")
        world.rest()
        world.move(0, 0, 1)
        world.rest()
        world.tidy(1, 0, "b")
        world.rest()
        self.object_at(world, 1, 0, {"b": (1, 0, 1, (1, 2))})

    def found_goes_back(self, world, part):
        """Deliver the found and check that what it bears goes back."""
        before = self.boxes_of(world)
        self.deliver_kind(world, "found")
        self.assert_exact(world.letters()[-1], ("back", 2, 0, part))
        self.assertEqual(self.boxes_of(world), before)

    def boxes_of(self, world):
        return [world.inside(house, row[0]) for house in range(3) for row in world.slots(house) if row[1] == "object"]

    def sought(self):
        """Return a world in which the found is under way to the box at (0, 0)."""
        world = self.moved()
        world.tidy(0, 0, "b")
        world.deliver()
        world.deliver()
        self.assert_exact(world.letters(), [("found", 0, 0, "b")])
        return world

    def test_the_box_was_cleared(self):
        world = self.sought()
        world.ask("ann", "x", ("clear", "b"))
        self.deliver_kind(world, "ask")
        self.found_goes_back(world, (1, 2))

    def test_the_box_was_set_anew(self):
        world = self.sought()
        world.ask("ann", "x", ("take", "b"), gift="y")
        self.deliver_kind(world, "ask")
        self.found_goes_back(world, (1, 2))

    def test_the_box_was_cleared_and_set_again(self):
        world = self.sought()
        world.ask("ann", "x", ("clear", "b"))
        world.ask("ann", "x", ("take", "b"), gift="y")
        self.deliver_kind(world, "ask")
        self.deliver_kind(world, "ask")
        self.found_goes_back(world, (1, 2))

    def test_the_object_is_gone(self):
        world = self.sought()
        world.drop("ann", "x")
        self.deliver_kind(world, "back")
        self.assertEqual(world.slots(0), [])
        self.found_goes_back(world, (1, 2))

    def test_another_object_with_such_a_box_stands_there(self):
        world = self.sought()
        world.make("ann", "u", 0)
        world.drop("ann", "x")
        self.deliver_kind(world, "back")
        world.ask("ann", "u", ("make",), target="z")
        self.deliver_kind(world, "ask")
        self.deliver_kind(world, "answer")
        self.assert_exact(world.address("ann", "z")[:2], (0, 0))
        world.ask("ann", "z", ("take", "b"), gift="y")
        self.deliver_kind(world, "ask")
        self.found_goes_back(world, (1, 2))

    def test_the_object_is_under_way(self):
        world = self.sought()
        world.move(0, 0, 1)
        self.found_goes_back(world, (1, 2))

    def test_a_note_stands_there(self):
        world = self.sought()
        world.move(0, 0, 1)
        self.deliver_kind(world, "object")
        self.deliver_kind(world, "reply")
        self.found_goes_back(world, (1, 2))

    def test_the_object_moved_away_and_came_back_to_another_slot(self):
        world = self.sought()
        world.move(0, 0, 1)
        self.deliver_kind(world, "object")
        world.move(1, 1, 0)
        self.deliver_kind(world, "object")
        self.assertEqual(world.inside(0, 1)[0], "object")
        self.found_goes_back(world, (1, 2))

    def test_the_object_moved_away_and_came_back_to_the_same_slot(self):
        world = self.moved()
        # Nothing but a box of its own holds the object at (0, 0), so that its old slot is freed when that is tidied.
        world.ask("ann", "x", ("take", "me"), gift="x")
        world.rest()
        world.drop("ann", "x")
        world.rest()
        world.tidy(0, 0, "b")
        world.move(0, 0, 1)
        self.deliver_kind(world, "seek")
        self.deliver_kind(world, "seek")
        self.assert_exact(world.letters()[-1], ("found", 0, 0, "b"))
        self.deliver_kind(world, "object")
        self.deliver_kind(world, "reply")
        at = [row[0] for row in world.slots(1) if row[1] == "object"][0]
        world.tidy(1, at, "me")
        self.deliver_kind(world, "seek")
        self.deliver_kind(world, "seek")
        world.deliver([letter[-1] for letter in world.letters()].index("me"))
        self.deliver_told(world, ("back", 0, 0, world.letters()[-1][3]))
        self.assertEqual(world.slots(0), [])
        world.move(1, at, 0)
        self.deliver_kind(world, "object")
        self.assertEqual(world.slots(0)[0][:3], (0, "object", 2))
        old = world.inside(0, 0)[2]["b"]
        self.assert_exact(old[:3], (1, 0, 0))
        self.deliver_told(world, ("found", 0, 0, "b"))
        self.assert_exact(world.inside(0, 0)[2]["b"], (2, 0, 1, (1, 2)))
        self.assert_exact(world.letters()[-1], ("back",) + old[:2] + (old[3],))

    def test_seeks_wait_and_pass_notes_as_asks_do(self):
        world = self.boxed()
        world.tidy(0, 0, "b")
        world.move(1, 0, 2)
        self.deliver_kind(world, "seek")
        self.assert_exact(world.inside(1, 0), ("departing", 1))
        self.assert_exact(world.letters(), [("object", 1, 0, 2)])
        world.deliver()
        world.deliver()
        self.assert_exact(world.letters(), [("seek", 2, 0)])
        self.assert_exact(world.slots(1), [(0, "note", 0, (1, 4))])
        world.deliver()
        self.assert_exact(world.letters(), [("found", 0, 0, "b")])


if __name__ == "__main__":
    unittest.main()

"""Points 23 and 24: looks, their two rounds, the dead set, and the letters that empty the boxes of its objects."""

import unittest

from tests.cases import WorldCase
from trailparts.worlds import World


class LooksCase(WorldCase):
    def ring(self, houses=3):
        """Return a world in which the objects at (0, 0) and (1, 0) hold each other, in boxes b and c, and nobody else."""
        world = self.boxed(houses)
        world.ask("ann", "y", ("take", "c"), gift="x")
        world.rest()
        world.drop("ann", "x")
        world.drop("ann", "y")
        world.rest()
        self.assertEqual([world.slots(house)[0][1] for house in [0, 1]], ["object", "object"])
        return world

    def selfish(self, houses=3):
        """Return a world in which the object at (0, 0) holds itself in a box a, and nobody else holds it."""
        world = World(houses, list(self.hands))
        world.make("ann", "x", 0)
        world.ask("ann", "x", ("take", "a"), gift="x")
        world.rest()
        world.drop("ann", "x")
        world.rest()
        return world

    def reports(self, world, look, turn, houses=3):
        """Deliver the letters of a round."""
        for house in range(houses):
            self.deliver_told(world, ("look", look, house, turn))

    def empties(self, world):
        return [letter for letter in world.letters() if letter[0] == "empty"]

    def kept_between(self, world, change, houses=3):
        """Begin a look, let a change happen between the rounds, and check that nothing is found to be dead."""
        number = world.look()
        self.reports(world, number, 1, houses)
        change(world)
        self.reports(world, number, 2, houses)
        self.assertEqual(self.empties(world), [])


class RoundsTest(LooksCase):
    def test_numbers(self):
        world = self.new_world()
        self.assert_exact([world.look(), world.look()], [1, 2])
        world.rest()
        self.assert_exact(world.look(), 3)

    def test_a_letter_to_each_house_in_order(self):
        for houses in [1, 2, 6]:
            world = World(houses, ["ann"])
            world.look()
            self.assert_exact(world.letters(), [("look", 1, house, 1) for house in range(houses)])

    def test_round_2_begins_when_all_reports_of_round_1_have_been_made(self):
        world = self.new_world()
        world.look()
        self.deliver_told(world, ("look", 1, 2, 1))
        self.deliver_told(world, ("look", 1, 0, 1))
        self.assert_exact(world.letters(), [("look", 1, 1, 1)])
        self.deliver_told(world, ("look", 1, 1, 1))
        self.assert_exact(world.letters(), [("look", 1, house, 2) for house in range(3)])

    def test_empties_are_sent_when_all_reports_of_round_2_have_been_made(self):
        world = self.ring()
        world.look()
        self.reports(world, 1, 1)
        self.deliver_told(world, ("look", 1, 2, 2))
        self.deliver_told(world, ("look", 1, 1, 2))
        self.assert_exact(world.letters(), [("look", 1, 0, 2)])
        self.deliver_told(world, ("look", 1, 0, 2))
        self.assert_exact(world.letters(), [("empty", 1, 0), ("empty", 1, 1)])

    def test_where_nothing_stands_nothing_comes_of_it(self):
        for houses in [1, 3, 6]:
            world = World(houses, ["ann"])
            world.look()
            self.assertEqual(world.rest(), 2 * houses)

    def test_where_all_is_reached_nothing_comes_of_it(self):
        world = self.boxed()
        before = self.view(world)[1][6:]
        world.look()
        self.assertEqual(world.rest(), 6)
        self.assertEqual(self.view(world)[1][6:], before)


class DeadSetTest(LooksCase):
    def test_a_ring(self):
        world = self.ring()
        world.look()
        self.reports(world, 1, 1)
        self.reports(world, 1, 2)
        self.deliver_told(world, ("empty", 1, 0))
        self.object_at(world, 0, 0, {})
        self.assert_exact(world.letters(), [("empty", 1, 1), ("back", 1, 0, (1, 2))])
        self.deliver_told(world, ("empty", 1, 1))
        self.object_at(world, 1, 0, {})
        self.assertEqual(world.rest(), 2)
        self.assertEqual([world.slots(house) for house in range(3)], [[], [], []])

    def test_in_one_house(self):
        world = World(1, ["ann"])
        world.make("ann", "x", 0)
        world.ask("ann", "x", ("take", "a"), gift="x")
        world.rest()
        world.drop("ann", "x")
        world.rest()
        world.look()
        self.assertEqual(world.rest(), 4)
        self.assertEqual(world.slots(0), [])

    def test_an_object_that_is_held_by_a_dead_one_and_has_no_box(self):
        world = self.boxed()
        world.ask("ann", "x", ("take", "a"), gift="x")
        world.rest()
        world.drop("ann", "x")
        world.drop("ann", "y")
        world.rest()
        world.look()
        self.reports(world, 1, 1)
        self.reports(world, 1, 2)
        self.assert_exact(world.letters(), [("empty", 1, 0)])
        world.rest()
        self.assertEqual([world.slots(house) for house in range(3)], [[], [], []])

    def test_the_boxes_go_back_in_ascending_order_of_the_slots_and_the_names(self):
        world = World(2, ["ann"])
        names = {"x": ["c", "a", "b"], "y": ["into", "with"], "z": ["b", "a"]}
        for name in names:
            world.make("ann", name, 0)
        for name, boxes in names.items():
            for at, box in enumerate(boxes):
                world.ask("ann", name, ("take", box), gift=sorted(names)[at])
        world.rest()
        held = [world.inside(0, number)[2][box] for number, name in enumerate(sorted(names)) for box in sorted(names[name])]
        for name in names:
            world.drop("ann", name)
        world.rest()
        self.assertEqual(len(world.slots(0)), 3)
        world.look()
        self.reports(world, 1, 1, houses=2)
        self.reports(world, 1, 2, houses=2)
        self.assert_exact(world.letters(), [("empty", 1, 0)])
        world.deliver()
        self.assert_exact(world.letters(), [("back",) + address[:2] + address[3:] for address in held])
        world.rest()
        self.assertEqual(world.slots(0), [])

    def test_the_order_in_which_slots_were_taken_does_not_count(self):
        world = World(1, ["ann"])
        for name in ["u", "v", "w"]:
            world.make("ann", name, 0)
        world.drop("ann", "v")
        world.drop("ann", "u")
        world.rest()
        world.make("ann", "u", 0)
        world.make("ann", "v", 0)
        self.assertEqual([world.address("ann", name)[1] for name in "uvw"], [0, 1, 2])
        for name in "wuv":
            world.ask("ann", name, ("take", "a"), gift=name)
        world.rest()
        for name in "wuv":
            world.drop("ann", name)
        world.rest()
        world.look()
        world.deliver()
        world.deliver()
        self.deliver_told(world, ("empty", 1, 0))
        self.assert_exact([letter[:3] for letter in world.letters()], [("back", 0, 0), ("back", 0, 1), ("back", 0, 2)])

    def test_what_a_variable_reaches_stays_although_dead_ones_hold_it(self):
        world = self.ring()
        world.make("bob", "y", 2)
        world.make("bob", "z", 0)
        world.ask("bob", "z", ("take", "k"), gift="z")
        world.ask("bob", "z", ("take", "b"), gift="y")
        world.rest()
        world.drop("bob", "z")
        world.rest()
        world.look()
        world.rest()
        self.assertEqual((world.slots(0), world.slots(1)), ([], []))
        self.assert_exact(world.slots(2), [(0, "object", 0, (1, 2))])

    def test_what_holds_dead_looking_ones_keeps_them(self):
        world = self.boxed()
        world.ask("ann", "y", ("take", "c"), gift="x")
        world.rest()
        world.drop("ann", "y")
        world.rest()
        world.look()
        self.assertEqual(world.rest(), 6)
        self.assertEqual((len(world.slots(0)), len(world.slots(1))), (1, 1))
        world.drop("ann", "x")
        world.rest()
        world.look()
        world.rest()
        self.assertEqual((world.slots(0), world.slots(1)), ([], []))

    def test_with_notes_between(self):
        world = self.ring()
        world.move(0, 0, 2)
        world.rest()
        world.move(1, 0, 0)
        world.rest()
        self.assertEqual([[row[1] for row in world.slots(house)] for house in range(3)], [["note", "object"], ["note"], ["object"]])
        world.look()
        self.reports(world, 1, 1)
        self.reports(world, 1, 2)
        self.assert_exact(world.letters(), [("empty", 1, 0), ("empty", 1, 2)])
        world.rest()
        self.assertEqual([world.slots(house) for house in range(3)], [[], [], []])

    def test_a_part_in_a_letter_keeps(self):
        world = self.ring()
        world.make("ann", "w", 2)
        world.tidy(0, 0, "b")
        world.look()
        self.reports(world, 1, 1)
        self.reports(world, 1, 2)
        self.assertEqual(self.empties(world), [])
        self.assert_exact(world.letters(), [("seek", 1, 0)])

    def test_an_object_under_way_keeps_what_it_holds(self):
        world = self.boxed()
        world.ask("ann", "y", ("take", "c"), gift="y")
        world.rest()
        world.drop("ann", "y")
        world.rest()
        world.move(0, 0, 2)
        world.look()
        self.reports(world, 1, 1)
        self.reports(world, 1, 2)
        self.assert_exact(world.letters(), [("object", 0, 0, 2)])

    def test_a_letter_that_waits_keeps(self):
        world = self.selfish()
        world.make("ann", "x", 1)
        world.ask("ann", "x", ("take", "a"), gift="x")
        world.rest()
        world.move(1, 0, 2)
        world.ask("ann", "x", ("get",))
        self.deliver_kind(world, "ask")
        world.drop("ann", "x")
        self.deliver_kind(world, "back")
        world.look()
        self.reports(world, 1, 1)
        self.reports(world, 1, 2)
        self.assert_exact(self.empties(world), [("empty", 1, 0)])
        self.assert_exact(world.inside(1, 0), ("departing", 1))


class UnchangedTest(LooksCase):
    def test_a_part_was_added_to_the_purse(self):
        world = self.boxed()
        world.ask("ann", "x", ("take", "a"), gift="x")
        world.rest()
        world.drop("ann", "x")
        world.drop("ann", "y")
        self.kept_between(world, lambda world: self.deliver_told(world, world.letters()[0]))
        world.rest()
        world.look()
        world.rest()
        self.assertEqual([world.slots(house) for house in range(3)], [[], [], []])

    def test_a_box_was_copied_and_the_same_part_came_back(self):
        world = self.selfish()

        def change(world):
            before = self.view(world)[1][6:]
            world.tidy(0, 0, "a")
            self.deliver_kind(world, "seek")
            self.deliver_kind(world, "found")
            self.assertEqual(self.view(world)[1][6:], before)

        self.kept_between(world, change)

    def test_a_part_was_added_to_a_box(self):
        world = self.ring()
        world.tidy(0, 0, "b")
        self.deliver_kind(world, "seek")
        self.kept_between(world, lambda world: self.deliver_kind(world, "found"))

    def test_a_part_was_added_to_a_box_of_an_object_that_only_holds_itself_and_what_was_sought(self):
        world = self.holding_itself_and_another()
        world.tidy(0, 0, "b")
        self.deliver_kind(world, "seek")
        self.kept_between(world, lambda world: self.deliver_kind(world, "found"))

    def holding_itself_and_another(self):
        """Return a world in which the object at (0, 0) holds itself and, in b, the one at (1, 0) of ann's y."""
        world = self.boxed()
        world.ask("ann", "x", ("take", "a"), gift="x")
        world.rest()
        world.drop("ann", "x")
        world.rest()
        return world

    def test_a_box_was_given_a_greater_age(self):
        world = self.holding_itself_and_another()
        world.move(1, 0, 2)
        world.rest()
        world.tidy(0, 0, "b")
        self.deliver_kind(world, "seek")
        self.deliver_kind(world, "seek")
        self.kept_between(world, lambda world: self.deliver_kind(world, "found"))

    def test_a_found_that_goes_back_is_no_change(self):
        world = self.holding_itself_and_another()
        world.tidy(0, 0, "b")
        self.deliver_kind(world, "seek")
        world.move(1, 0, 2)
        self.deliver_kind(world, "object")
        self.deliver_kind(world, "reply")
        world.tidy(0, 0, "b")
        self.deliver_kind(world, "seek")
        self.deliver_kind(world, "seek")
        world.deliver(1)
        self.assert_exact(world.inside(0, 0)[2]["b"][:3], (2, 0, 1))
        world.look()
        self.reports(world, 1, 1)
        before = world.inside(0, 0)
        self.deliver_kind(world, "found")
        self.assertEqual(world.inside(0, 0), before)
        self.reports(world, 1, 2)
        self.assert_exact(self.empties(world), [("empty", 1, 0)])

    def test_a_found_to_a_box_that_was_set_anew_is_no_change(self):
        world = self.boxed()
        world.tidy(0, 0, "b")
        self.deliver_kind(world, "seek")
        world.ask("ann", "x", ("take", "b"), gift="x")
        world.drop("ann", "x")
        for kind in ["ask", "answer", "back", "back", "back"]:
            self.deliver_kind(world, kind)
        self.assert_exact(world.letters(), [("found", 0, 0, "b")])
        world.look()
        self.reports(world, 1, 1)
        self.deliver_kind(world, "found")
        self.reports(world, 1, 2)
        self.assert_exact(self.empties(world), [("empty", 1, 0)])

    def test_it_became_departing(self):
        self.kept_between(self.selfish(), lambda world: world.move(0, 0, 1))

    def test_it_became_a_note(self):
        world = self.selfish()
        world.move(0, 0, 1)
        self.deliver_kind(world, "object")
        self.kept_between(world, lambda world: self.deliver_kind(world, "reply"))

    def test_the_object_came_in_between(self):
        world = self.selfish()
        world.move(0, 0, 1)
        self.kept_between(world, lambda world: (self.deliver_kind(world, "object"), self.deliver_kind(world, "reply")))

    def test_a_note_was_passed(self):
        world = self.ring()
        world.move(1, 0, 2)
        world.rest()
        world.tidy(0, 0, "b")
        self.kept_between(world, lambda world: self.deliver_kind(world, "seek"))

    def test_changes_before_round_1_and_after_round_2_of_the_house_do_not_count(self):
        world = self.ring()
        world.look()
        self.deliver_told(world, ("look", 1, 1, 1))
        world.tidy(0, 0, "b")
        self.deliver_kind(world, "seek")
        self.deliver_kind(world, "found")
        self.deliver_told(world, ("look", 1, 2, 1))
        self.deliver_told(world, ("look", 1, 0, 1))
        self.assertEqual(len(world), 3)
        self.deliver_told(world, ("look", 1, 0, 2))
        world.tidy(0, 0, "b")
        self.deliver_told(world, ("look", 1, 1, 2))
        self.deliver_told(world, ("look", 1, 2, 2))
        self.assert_exact(world.letters(), [("seek", 1, 0), ("empty", 1, 0), ("empty", 1, 1)])
        world.rest()
        self.assertEqual([world.slots(house) for house in range(3)], [[], [], []])

    def test_a_change_of_one_keeps_those_that_it_holds_and_not_others(self):
        world = self.ring()
        world.make("bob", "x", 2)
        world.ask("bob", "x", ("take", "a"), gift="x")
        world.rest()
        world.drop("bob", "x")
        world.rest()
        world.look()
        self.reports(world, 1, 1)
        world.tidy(0, 0, "b")
        self.deliver_kind(world, "seek")
        self.deliver_kind(world, "found")
        self.reports(world, 1, 2)
        self.assert_exact(self.empties(world), [("empty", 1, 2)])

    def test_an_object_that_is_asked_between_the_rounds(self):
        deeds = [(("take", "n"), "x", None), (("clear", "b"), None, None), (("give", "b"), None, "t"), (("clone",), None, "t")]
        for deed, gift, target in deeds:
            world = self.boxed()
            world.ask("ann", "x", deed, gift=gift, target=target)
            world.drop("ann", "x")
            world.look()
            self.reports(world, 1, 1)
            self.deliver_kind(world, "ask")
            self.reports(world, 1, 2)
            self.assertEqual(self.empties(world), [])


class EmptiesTest(LooksCase):
    def found_dead(self, world, number=1, houses=3):
        """Deliver both rounds of a look."""
        self.reports(world, number, 1, houses)
        self.reports(world, number, 2, houses)

    def test_an_object_that_was_moved_before_is_not_emptied(self):
        world = self.selfish()
        world.look()
        self.found_dead(world)
        world.move(0, 0, 1)
        self.deliver_told(world, ("empty", 1, 0))
        self.assert_exact(world.letters(), [("object", 0, 0, 1)])
        world.rest()
        self.assertEqual(list(world.inside(1, 0)[2]), ["a"])
        world.look()
        world.rest()
        self.assertEqual([world.slots(house) for house in range(3)], [[], [], []])

    def test_an_object_that_was_delivered_elsewhere_before_is_not_emptied(self):
        world = self.selfish()
        world.look()
        self.found_dead(world)
        world.move(0, 0, 1)
        self.deliver_kind(world, "object")
        world.move(1, 0, 0)
        self.deliver_kind(world, "object")
        self.deliver_kind(world, "reply")
        self.assert_exact([row[1] for row in world.slots(0)], ["note", "object"])
        self.deliver_told(world, ("empty", 1, 0))
        self.assertEqual(list(world.inside(0, 1)[2]), ["a"])

    def test_an_object_that_was_freed_before_and_another_one_in_its_slot(self):
        world = self.selfish()
        world.look()
        world.look()
        self.found_dead(world, 1)
        self.found_dead(world, 2)
        self.assert_exact(world.letters(), [("empty", 1, 0), ("empty", 2, 0)])
        self.deliver_told(world, ("empty", 1, 0))
        self.deliver_kind(world, "back")
        self.assertEqual(world.slots(0), [])
        world.make("ann", "x", 0)
        world.ask("ann", "x", ("take", "a"), gift="x")
        self.deliver_kind(world, "ask")
        self.deliver_told(world, ("empty", 2, 0))
        self.assertEqual(list(world.inside(0, 0)[2]), ["a"])

    def test_an_object_that_was_freed_before(self):
        world = self.selfish()
        world.look()
        world.look()
        self.found_dead(world, 1)
        self.found_dead(world, 2)
        self.deliver_told(world, ("empty", 1, 0))
        self.deliver_kind(world, "back")
        self.deliver_told(world, ("empty", 2, 0))
        self.assertEqual((world.letters(), world.slots(0)), ([], []))

    def test_the_second_of_two_looks_finds_no_more_boxes(self):
        world = self.ring()
        world.look()
        world.look()
        self.found_dead(world, 2)
        self.found_dead(world, 1)
        self.assert_exact(world.letters(), [("empty", 2, 0), ("empty", 2, 1), ("empty", 1, 0), ("empty", 1, 1)])
        self.deliver_told(world, ("empty", 2, 0))
        self.deliver_told(world, ("empty", 1, 0))
        self.assert_exact(world.letters()[2:], [("back", 1, 0, (1, 2))])
        world.rest()
        self.assertEqual((world.slots(0), world.slots(1)), ([], []))

    def test_what_one_look_empties_is_a_change_for_another(self):
        world = self.ring()
        world.look()
        self.found_dead(world, 1)
        world.look()
        self.reports(world, 2, 1)
        self.deliver_told(world, ("empty", 1, 0))
        self.reports(world, 2, 2)
        self.assertEqual(self.empties(world), [("empty", 1, 1)])
        world.rest()
        self.assertEqual((world.slots(0), world.slots(1)), ([], []))

    def test_an_empty_without_boxes_to_empty_is_no_change(self):
        world = self.boxed()
        world.ask("ann", "x", ("take", "a"), gift="x")
        world.make("bob", "z", 1)
        world.ask("bob", "z", ("take", "k"), gift="z")
        world.rest()
        for hand, name in [("ann", "x"), ("ann", "y"), ("bob", "z")]:
            world.drop(hand, name)
        world.rest()
        world.look()
        world.look()
        self.found_dead(world, 1)
        self.reports(world, 2, 1)
        self.assert_exact(self.empties(world), [("empty", 1, 0), ("empty", 1, 1)])
        self.deliver_told(world, ("empty", 1, 1))
        self.reports(world, 2, 2)
        self.assert_exact(self.empties(world), [("empty", 1, 0), ("empty", 2, 0)])
        world.rest()
        self.assertEqual([world.slots(house) for house in range(3)], [[], [], []])

    def test_others_in_the_house_keep_their_boxes(self):
        world = self.selfish()
        world.make("ann", "x", 0)
        world.ask("ann", "x", ("take", "a"), gift="x")
        world.rest()
        world.look()
        world.rest()
        self.assertEqual([row[0] for row in world.slots(0)], [1])
        self.assertEqual(list(world.inside(0, 1)[2]), ["a"])

    def test_looks_are_no_entries_of_the_log(self):
        world = self.ring()
        log = world.log()
        world.look()
        world.rest()
        self.assertEqual(world.log(), log)


if __name__ == "__main__":
    unittest.main()

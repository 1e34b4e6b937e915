"""Point 25: who holds the parts of a slot."""

import random
import unittest
from fractions import Fraction

from tests.cases import NO_NUMBERS, WorldCase
from tests.compare import Pair, random_event
from trailparts.errors import NoHouse, NoSlot
from trailparts.weights import holders
from trailparts.worlds import World

LETTER = ("letter",)
X = ("variable", "ann", "x")
Y = ("variable", "ann", "y")
MIXED = {"make": 3, "ask": 14, "share": 2, "drop": 2, "send": 3, "move": 6, "tidy": 4, "look": 1, "deliver": 24}


class HoldersTest(WorldCase):
    def assert_holders(self, world, house, number, expected):
        got = holders(world, house, number)
        self.assertIs(got.__class__, list)
        self.assert_exact(got, expected)

    def test_a_variable(self):
        world = self.new_world()
        world.make("ann", "x", 1)
        self.assert_holders(world, 1, 0, [(X, (1, 1))])

    def test_several_variables_and_hands_in_order(self):
        world = self.new_world()
        world.make("bob", "x", 0)
        world.share("bob", "x", "a")
        world.send("bob", "x", "ann", "z")
        world.deliver()
        expected = [
            (("variable", "ann", "z"), (1, 4)), (("variable", "bob", "a"), (1, 2)), (("variable", "bob", "x"), (1, 4)),
        ]
        self.assert_holders(world, 0, 0, expected)

    def test_a_box(self):
        world = self.boxed()
        self.assert_holders(world, 1, 0, [(("box", 0, 0, "b"), (1, 2)), (Y, (1, 2))])
        self.assert_holders(world, 0, 0, [(X, (1, 1))])

    def test_two_boxes_of_one_object_and_one_of_another(self):
        world = self.boxed()
        for name, box in [("x", "a"), ("y", "c")]:
            world.ask("ann", name, ("take", box), gift="y")
            world.rest()
        expected = [
            (("box", 0, 0, "a"), (1, 4)), (("box", 0, 0, "b"), (1, 2)), (("box", 1, 0, "c"), (1, 16)), (Y, (3, 16)),
        ]
        self.assert_holders(world, 1, 0, expected)

    def test_boxes_come_in_the_order_of_houses_then_numbers(self):
        world = World(6, ["ann"])
        for house in [5, 1, 1, 0]:
            world.make("ann", "xyzu"[len(world.names("ann"))], house)
        for name in "xyzu":
            world.ask("ann", name, ("take", "b"), gift="x")
            world.rest()
        places = [holder[1:3] for holder, part in holders(world, 5, 0) if holder[0] == "box"]
        self.assertEqual(places, [(0, 0), (1, 0), (1, 1), (5, 0)])

    def test_slots_above_nine_come_in_the_order_of_numbers(self):
        world = World(1, ["ann"])
        world.make("ann", "x", 0)
        for step in range(11):
            world.make("ann", "y", 0)
            world.ask("ann", "y", ("take", "b"), gift="x")
            world.share("ann", "y", "y" + "abcdefghijk"[step])
        while len(world) > 0:
            world.deliver()
        numbers = [holder[2] for holder, part in holders(world, 0, 0) if holder[0] == "box"]
        self.assertEqual(numbers, list(range(1, 12)))

    def test_a_note(self):
        world = self.new_world()
        world.make("ann", "x", 0)
        world.move(0, 0, 2)
        world.rest()
        self.assert_holders(world, 2, 0, [(("note", 0, 0), (1, 1))])
        self.assert_holders(world, 0, 0, [(X, (1, 1))])

    def test_a_note_whose_address_was_copied(self):
        world = self.new_world()
        world.make("ann", "x", 0)
        world.move(0, 0, 2)
        world.rest()
        world.ask("ann", "x", ("get",))
        world.deliver()
        self.assert_holders(world, 2, 0, [(LETTER, (1, 2)), (("note", 0, 0), (1, 2))])
        world.rest()
        self.assert_holders(world, 2, 0, [(X, (1, 2))])

    def test_an_ask_with_a_gift(self):
        world = self.new_world()
        world.make("ann", "x", 0)
        world.make("ann", "y", 1)
        world.ask("ann", "x", ("take", "b"), gift="y")
        self.assert_holders(world, 0, 0, [(LETTER, (1, 2)), (X, (1, 2))])
        self.assert_holders(world, 1, 0, [(LETTER, (1, 2)), (Y, (1, 2))])

    def test_an_ask_with_a_gift_of_the_same_variable_has_two_entries(self):
        world = self.new_world()
        world.make("ann", "x", 0)
        world.ask("ann", "x", ("take", "b"), gift="x")
        self.assert_holders(world, 0, 0, [(LETTER, (1, 2)), (LETTER, (1, 4)), (X, (1, 4))])

    def test_equal_entries_stay_two(self):
        world = self.new_world()
        world.make("ann", "x", 0)
        world.share("ann", "x", "y")
        world.drop("ann", "x")
        world.share("ann", "y", "z")
        world.drop("ann", "z")
        world.share("ann", "y", "z")
        world.send("ann", "z", "bob", "x")
        world.send("ann", "y", "bob", "x")
        expected = [
            (LETTER, (1, 2)), (LETTER, (1, 4)), (LETTER, (1, 16)), (LETTER, (1, 16)), (Y, (1, 16)),
            (("variable", "ann", "z"), (1, 16)),
        ]
        self.assert_holders(world, 0, 0, expected)

    def test_letters_come_in_the_order_of_the_tuples_not_of_the_weights(self):
        world = self.new_world()
        world.make("ann", "x", 0)
        for step in range(4):
            world.send("ann", "x", "bob", "y")
        parts = [part for holder, part in holders(world, 0, 0) if holder == LETTER]
        self.assert_exact(parts, [(1, 2), (1, 4), (1, 8), (1, 16)])
        world.share("ann", "x", "z")
        world.drop("ann", "x")
        world.drop("ann", "z")
        parts = [part for holder, part in holders(world, 0, 0)]
        self.assert_exact(parts, [(1, 2), (1, 4), (1, 8), (1, 16), (1, 32), (1, 32)])

    def test_a_part_with_a_greater_top_comes_later(self):
        world = self.new_world()
        world.make("ann", "x", 0)
        for step in range(2):
            world.ask("ann", "x", ("get",))
        world.deliver()
        world.deliver(1)
        world.drop("ann", "x")
        self.assert_holders(world, 0, 0, [(LETTER, (1, 4)), (LETTER, (3, 4))])

    def test_an_answer_with_a_yield(self):
        world = self.boxed()
        world.ask("ann", "x", ("give", "b"), target="z")
        world.deliver()
        self.assertEqual(world.letters(), [("answer", 2)])
        self.assert_holders(world, 0, 0, [(LETTER, (1, 2)), (X, (1, 2))])
        self.assert_holders(world, 1, 0, [(("box", 0, 0, "b"), (1, 4)), (LETTER, (1, 4)), (Y, (1, 2))])

    def test_a_yield_that_nobody_else_holds(self):
        world = self.new_world()
        world.make("ann", "x", 0)
        world.ask("ann", "x", ("make",), target="z")
        world.deliver()
        self.assert_holders(world, 0, 1, [(LETTER, (1, 1))])

    def test_a_clone_holds_copies(self):
        world = self.boxed()
        world.ask("ann", "x", ("clone",), target="z")
        world.deliver()
        expected = [(("box", 0, 0, "b"), (1, 4)), (("box", 0, 1, "b"), (1, 4)), (Y, (1, 2))]
        self.assert_holders(world, 1, 0, expected)
        self.assert_holders(world, 0, 1, [(LETTER, (1, 1))])

    def test_a_gift(self):
        world = self.new_world()
        world.make("ann", "x", 0)
        world.send("ann", "x", "bob", "y")
        self.assert_holders(world, 0, 0, [(LETTER, (1, 2)), (X, (1, 2))])
        world.deliver()
        self.assert_holders(world, 0, 0, [(X, (1, 2)), (("variable", "bob", "y"), (1, 2))])

    def test_a_back(self):
        world = self.new_world()
        world.make("ann", "x", 0)
        world.share("ann", "x", "y")
        world.drop("ann", "x")
        self.assert_holders(world, 0, 0, [(LETTER, (1, 2)), (Y, (1, 2))])
        world.deliver()
        self.assert_holders(world, 0, 0, [(Y, (1, 2))])

    def test_an_object_under_way_holds_the_addresses_in_its_boxes(self):
        world = self.boxed()
        world.ask("ann", "x", ("take", "a"), gift="y")
        world.rest()
        world.move(0, 0, 2)
        self.assert_holders(world, 1, 0, [(LETTER, (1, 2)), (LETTER, (1, 4)), (Y, (1, 4))])
        self.assert_holders(world, 0, 0, [(X, (1, 1))])
        world.deliver()
        self.assert_holders(world, 1, 0, [(("box", 2, 0, "a"), (1, 4)), (("box", 2, 0, "b"), (1, 2)), (Y, (1, 4))])

    def test_an_object_under_way_that_holds_itself(self):
        world = self.new_world()
        world.make("ann", "x", 0)
        world.ask("ann", "x", ("take", "b"), gift="x")
        world.rest()
        world.move(0, 0, 1)
        self.assert_holders(world, 0, 0, [(LETTER, (1, 4)), (X, (3, 4))])

    def test_a_reply(self):
        world = self.new_world()
        world.make("ann", "x", 0)
        world.move(0, 0, 2)
        world.deliver()
        self.assertEqual(world.letters(), [("reply", 0, 0)])
        self.assert_holders(world, 2, 0, [(LETTER, (1, 1))])
        self.assert_holders(world, 0, 0, [(X, (1, 1))])

    def test_a_seek_and_a_found(self):
        world = self.boxed()
        world.tidy(0, 0, "b")
        expected = [(("box", 0, 0, "b"), (1, 4)), (LETTER, (1, 4)), (Y, (1, 2))]
        self.assertEqual(world.letters(), [("seek", 1, 0)])
        self.assert_holders(world, 1, 0, expected)
        world.deliver()
        self.assertEqual(world.letters(), [("found", 0, 0, "b")])
        self.assert_holders(world, 1, 0, expected)
        world.deliver()
        self.assert_holders(world, 1, 0, [(("box", 0, 0, "b"), (1, 2)), (Y, (1, 2))])

    def test_looks_and_empties_hold_nothing(self):
        world = self.boxed()
        world.look()
        self.assert_holders(world, 0, 0, [(X, (1, 1))])
        world.ask("ann", "x", ("take", "c"), gift="x")
        world.deliver(3)
        world.rest()
        world.drop("ann", "x")
        world.rest()
        world.look()
        while world.letters()[0][0] == "look":
            world.deliver()
        self.assertEqual(world.letters(), [("empty", 2, 0)])
        self.assert_holders(world, 0, 0, [(("box", 0, 0, "c"), (1, 4))])

    def test_what_waits_at_a_departing_slot(self):
        world = self.boxed()
        world.move(1, 0, 2)
        world.ask("ann", "y", ("take", "b"), gift="x")
        world.deliver(1)
        world.tidy(0, 0, "b")
        world.deliver(1)
        self.assertEqual(world.letters(), [("object", 1, 0, 2)])
        self.assertEqual(world.inside(1, 0), ("departing", 2))
        expected = [(("box", 0, 0, "b"), (1, 4)), (LETTER, (1, 4)), (LETTER, (1, 4)), (Y, (1, 4))]
        self.assert_holders(world, 1, 0, expected)
        self.assert_holders(world, 0, 0, [(LETTER, (1, 2)), (X, (1, 2))])
        world.deliver()
        world.deliver()
        self.assertEqual(world.letters(), [("ask", 2, 2, 0), ("seek", 2, 0)])
        self.assert_holders(world, 1, 0, [(("box", 0, 0, "b"), (1, 4)), (Y, (1, 4))])
        self.assert_holders(world, 2, 0, [(LETTER, (1, 2)), (LETTER, (1, 4)), (("note", 1, 0), (1, 4))])

    def test_a_departing_slot_that_nobody_holds(self):
        world = self.new_world()
        world.make("ann", "x", 0)
        world.drop("ann", "x")
        world.move(0, 0, 1)
        self.assert_holders(world, 0, 0, [(LETTER, (1, 1))])
        world.deliver()
        self.assert_holders(world, 0, 0, [])

    def test_a_number_that_was_taken_again_has_only_the_new_holders(self):
        world = self.new_world()
        world.make("ann", "x", 0)
        world.drop("ann", "x")
        world.rest()
        world.make("bob", "y", 0)
        self.assert_holders(world, 0, 0, [(("variable", "bob", "y"), (1, 1))])

    def test_errors(self):
        world = self.boxed()
        world.move(1, 0, 2)
        for house in NO_NUMBERS + [3]:
            self.assert_refused(world, NoHouse, "house", house, holders, world, house, 7)
        for number in NO_NUMBERS + [1, 2]:
            self.assert_refused(world, NoSlot, "number", number, holders, world, 0, number)
        self.assert_refused(world, NoSlot, "number", 0, holders, world, 2, 0)

    def test_arguments_by_name(self):
        world = self.boxed()
        self.assert_exact(holders(world=world, house=0, number=0), [(X, (1, 1))])

    def test_within_a_trial(self):
        world = self.boxed()

        def of_two(world):
            world.share("ann", "x", "u")
            return holders(world, 0, 0)

        self.assert_exact(world.trial(of_two), [(("variable", "ann", "u"), (1, 2)), (X, (1, 2))])
        self.assert_holders(world, 0, 0, [(X, (1, 1))])

    def test_while_a_function_chooses_a_letter(self):
        world = self.new_world()
        world.make("ann", "x", 0)
        world.drop("ann", "x")
        seen = []

        def by(letters):
            seen.append(holders(world, 0, 0))
            return 0

        world.rest(by=by)
        self.assert_exact(seen, [[(LETTER, (1, 1))]])


class WeightsTest(unittest.TestCase):
    def check(self, pair):
        """Compare all holders with the model, and check that all parts come to the whole."""
        for house in range(pair.houses):
            for number, state, age, purse in pair.world.slots(house):
                held = holders(pair.world, house, number)
                self.assertEqual(held, pair.model.holders(house, number))
                self.assertEqual(held, sorted(held))
                self.assertEqual(sum(Fraction(*part) for holder, part in held) + Fraction(*purse), 1)

    def test_after_each_event_purse_and_parts_come_to_the_whole(self):
        for seed in range(12):
            houses, hands = [(3, ["ann", "bob"]), (2, ["ann"]), (6, ["bob", "ann", "c"])][seed % 3]
            chance = random.Random(seed)
            pair = Pair(self, houses, hands)
            with self.subTest(seed=seed):
                for step in range(150):
                    pair.do(random_event(chance, pair.model, MIXED))
                    self.check(pair)
                while pair.model.under_way:
                    pair.do(("deliver", chance.randrange(len(pair.model.under_way))))
                    self.check(pair)


if __name__ == "__main__":
    unittest.main()

"""Point 10: each kind of letter, when it is sent, behind which others, its tuple; deliveries in any order."""

import itertools
import unittest

from tests.cases import WorldCase
from tests.compare import random_world
from trailparts.onehouse import as_if
from trailparts.worlds import World


class OrderTest(WorldCase):
    def test_each_letter_is_sent_behind_all_others(self):
        world = self.boxed()
        world.look()
        looks = [("look", 1, 0, 1), ("look", 1, 1, 1), ("look", 1, 2, 1)]
        self.assert_exact(world.letters(), looks)
        world.ask("ann", "x", ("get",))
        world.tidy(0, 0, "b")
        world.send("ann", "x", "bob", "w")
        world.share("ann", "x", "x")
        world.move(0, 0, 2)
        sent = [("ask", 2, 0, 0), ("seek", 1, 0), ("gift", "bob", "w"), ("back", 0, 0, (1, 8)), ("object", 0, 0, 2)]
        self.assert_exact(world.letters(), looks + sent)

    def test_the_one_at_the_place_is_taken_out_and_the_others_stay_in_order(self):
        for place in range(5):
            world = self.new_world()
            world.make("ann", "x", 0)
            for step in range(5):
                world.send("ann", "x", "bob", "abcde"[step])
            told = world.letters()
            self.assert_exact(world.deliver(place), told[place])
            self.assert_exact(world.letters(), told[:place] + told[place + 1:])
            self.assertEqual(world.names("bob"), ["abcde"[place]])

    def test_without_a_place_the_first_one(self):
        world = self.new_world()
        world.look()
        self.assert_exact([world.deliver() for step in range(3)], [("look", 1, house, 1) for house in range(3)])

    def test_what_a_delivery_causes_comes_behind_the_others(self):
        world = self.new_world()
        world.make("ann", "x", 0)
        world.ask("ann", "x", ("get",))
        world.ask("ann", "x", ("make",), target="y")
        world.deliver()
        self.assert_exact(world.letters(), [("ask", 2, 0, 0), ("answer", 1)])


class TuplesTest(WorldCase):
    def check_deliver(self, world, told, after):
        """Deliver the first letter of this tuple, and check the letters that are under way then."""
        self.deliver_told(world, told)
        self.assert_exact(world.letters(), after)

    def test_ask_and_answer(self):
        world = self.new_world()
        world.make("bob", "x", 2)
        world.make("bob", "y", 2)
        world.ask("bob", "y", ("get",))
        self.check_deliver(world, ("ask", 1, 2, 1), [("answer", 1)])
        self.check_deliver(world, ("answer", 1), [])

    def test_an_ask_that_goes_on(self):
        world = self.new_world()
        world.make("ann", "w", 1)
        world.make("ann", "x", 0)
        world.move(0, 0, 1)
        world.rest()
        world.ask("ann", "x", ("get",))
        self.check_deliver(world, ("ask", 1, 0, 0), [("ask", 1, 1, 1)])
        self.check_deliver(world, ("ask", 1, 1, 1), [("answer", 1)])
        self.check_deliver(world, ("answer", 1), [("back", 0, 0, (1, 2))])
        self.check_deliver(world, ("back", 0, 0, (1, 2)), [("back", 1, 1, (1, 2))])
        self.check_deliver(world, ("back", 1, 1, (1, 2)), [])

    def test_object_and_reply(self):
        world = self.new_world()
        world.make("ann", "w", 0)
        world.make("ann", "x", 0)
        world.move(0, 1, 2)
        self.assert_exact(world.letters(), [("object", 0, 1, 2)])
        self.check_deliver(world, ("object", 0, 1, 2), [("reply", 0, 1)])
        self.check_deliver(world, ("reply", 0, 1), [])

    def test_seek_and_found(self):
        world = self.boxed()
        world.move(1, 0, 2)
        world.rest()
        world.tidy(0, 0, "b")
        self.assert_exact(world.letters(), [("seek", 1, 0)])
        self.check_deliver(world, ("seek", 1, 0), [("seek", 2, 0)])
        self.check_deliver(world, ("seek", 2, 0), [("found", 0, 0, "b")])
        self.check_deliver(world, ("found", 0, 0, "b"), [("back", 1, 0, (1, 4))])

    def test_gift_and_back(self):
        world = self.new_world()
        world.make("ann", "x", 0)
        world.make("bob", "into", 1)
        world.send("ann", "x", "bob", "into")
        self.check_deliver(world, ("gift", "bob", "into"), [("back", 1, 0, (1, 1))])
        self.check_deliver(world, ("back", 1, 0, (1, 1)), [])

    def test_look_and_empty(self):
        world = self.boxed(houses=2)
        world.ask("ann", "y", ("take", "c"), gift="x")
        world.rest()
        world.drop("ann", "x")
        world.drop("ann", "y")
        world.rest()
        world.look()
        world.look()
        self.assert_exact(world.letters(), [("look", 1, 0, 1), ("look", 1, 1, 1), ("look", 2, 0, 1), ("look", 2, 1, 1)])
        self.check_deliver(world, ("look", 1, 1, 1), [("look", 1, 0, 1), ("look", 2, 0, 1), ("look", 2, 1, 1)])
        self.check_deliver(world, ("look", 1, 0, 1),
                           [("look", 2, 0, 1), ("look", 2, 1, 1), ("look", 1, 0, 2), ("look", 1, 1, 2)])
        self.check_deliver(world, ("look", 1, 1, 2), [("look", 2, 0, 1), ("look", 2, 1, 1), ("look", 1, 0, 2)])
        self.check_deliver(world, ("look", 1, 0, 2),
                           [("look", 2, 0, 1), ("look", 2, 1, 1), ("empty", 1, 0), ("empty", 1, 1)])


class AnyOrderTest(WorldCase):
    def test_all_orders_of_some_asks_give_what_the_one_house_gives(self):
        ends = []
        for order in itertools.product([0, 1, 2], repeat=5):
            world = World(2, ["ann"])
            world.make("ann", "x", 0)
            world.move(0, 0, 1)
            world.ask("ann", "x", ("add", 1))
            world.ask("ann", "x", ("add", 10))
            for place in order:
                world.deliver(place % len(world))
            world.rest()
            answers = [(entry[1], world.answer(entry[1])) for entry in world.log() if entry[0] == "answered"]
            self.assert_exact(answers, as_if(["ann"], world.log()))
            self.assertIn((world.answer(1), world.answer(2)), [(1, 11), (11, 10)])
            ends.append((world.answer(1), world.answer(2)))
            world.drop("ann", "x")
            world.rest()
            self.assertEqual((world.slots(0), world.slots(1)), ([], []))
        self.assertEqual(len(set(ends)), 2)

    def test_deliveries_end_in_any_order(self):
        for seed in range(30):
            for step in [0, 1, -1, 7]:
                world, model = random_world(seed, 40)
                count = world.rest(by=lambda letters: step)
                self.assertEqual(len(world), 0)
                self.assertLess(count, 2000)


if __name__ == "__main__":
    unittest.main()

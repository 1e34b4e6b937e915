"""The class World as such: houses and hands, len, repr, str, and what it tells of itself."""

import unittest

from tests.cases import NO_NUMBERS, WorldCase
from trailparts.errors import NoHand, NoHouse
from trailparts.worlds import World

FIVE = ["a", "ab", "abc", "abcd", "abcdef"]

NO_HANDS = [
    None, True, 0, 1, "", "ann", (), ("ann",), ("ann", "bob"), {}, {"ann": 1}, [], ["a", "b", "c", "d", "e", "f"],
    ["ann", "ann"], ["ann", "bob", "ann"], [""], ["ann", ""], ["Ann"], ["abcdefg"], ["ann", None], [None], [True], [1],
    [["ann"]], [("ann",)], ["ann", ["bob"]], ["a b"], ["ann\n"], [{}], [[]], ["ann", {"bob": 1}],
]


class MakingTest(WorldCase):
    def test_right_numbers_and_lists(self):
        for houses in range(1, 7):
            for count in range(1, 6):
                hands = FIVE[:count]
                world = World(houses, hands)
                self.assertEqual([world.slots(house) for house in range(houses)], [[]] * houses)
                self.assertEqual([world.names(hand) for hand in hands], [[]] * count)
                self.assert_raises(NoHouse, "house", houses, world.slots, houses)
                self.assert_raises(NoHand, "hand", "other", world.names, "other")

    def test_wrong_numbers_of_houses(self):
        for houses in NO_NUMBERS + [0, 7, 8, [1], (1,), "2", [[1]]]:
            self.assert_raises(NoHouse, "house", houses, World, houses, ["ann"])

    def test_wrong_lists_of_hands(self):
        for hands in NO_HANDS:
            self.assert_raises(NoHand, "hand", hands, World, 1, hands)

    def test_the_number_of_houses_comes_first(self):
        for hands in NO_HANDS:
            for houses in [0, 7, True, None]:
                self.assert_raises(NoHouse, "house", houses, World, houses, hands)

    def test_arguments_by_name(self):
        self.assertEqual(World(hands=["ann"], houses=2), World(2, ["ann"]))

    def test_the_list_of_hands_may_be_changed_later(self):
        hands = ["ann", "bob"]
        world = World(2, hands)
        hands.clear()
        hands.append("cat")
        world.make("bob", "x", 0)
        self.assertEqual(world.names("bob"), ["x"])
        self.assert_raises(NoHand, "hand", "cat", world.names, "cat")
        self.assertEqual(world == World(2, ["ann", "bob"]), False)

    def test_the_list_of_hands_is_not_changed(self):
        hands = ["bob", "ann"]
        world = World(2, hands)
        world.make("ann", "x", 0)
        self.assertEqual(hands, ["bob", "ann"])

    def test_two_worlds_share_nothing(self):
        hands = ["ann"]
        one = World(2, hands)
        other = World(2, hands)
        one.make("ann", "x", 0)
        one.ask("ann", "x", ("add", 3))
        one.look()
        self.assertEqual((len(other), other.names("ann"), other.log(), other.history(), repr(other)), (0, [], [], [], "World(2, 0)"))
        other.make("ann", "x", 1)
        self.assertEqual(other.ask("ann", "x", ("get",)), 1)
        self.assertEqual(other.look(), 1)
        one.rest()
        other.rest()
        self.assertEqual((one.answer(1), other.answer(1)), (3, 0))


class StringsTest(WorldCase):
    def test_len_is_the_number_of_letters(self):
        world = World(3, ["ann"])
        self.assertEqual(len(world), 0)
        self.assertIs(bool(world), False)
        world.look()
        self.assertEqual(len(world), 3)
        self.assertIs(bool(world), True)
        world.deliver()
        self.assertEqual(len(world), 2)
        world.rest()
        self.assertEqual(len(world), 0)
        self.assertIs(bool(world), False)

    def test_len_without_those_that_wait(self):
        world = World(2, ["ann"])
        world.make("ann", "x", 0)
        world.move(0, 0, 1)
        world.ask("ann", "x", ("get",))
        self.assertEqual(len(world), 2)
        world.deliver(1)
        self.assertEqual(len(world), 1)

    def test_repr(self):
        world = World(3, ["ann", "bob"])
        self.assertEqual(repr(world), "World(3, 0)")
        world.make("ann", "x", 0)
        world.ask("ann", "x", ("get",))
        self.assertEqual(repr(world), "World(3, 2)")
        world.rest()
        self.assertEqual(repr(world), "World(3, 4)")
        world.look()
        self.assertEqual(repr(world), "World(3, 5)")
        self.assertEqual(repr(World(6, ["a"])), "World(6, 0)")

    def test_str_is_empty_at_first(self):
        self.assertEqual(str(World(3, ["ann"])), "")

    def test_str_has_a_row_for_each_event(self):
        world = World(3, ["ann", "with"])
        world.make("ann", "x", 0)
        world.make("ann", "with", 2)
        world.ask("ann", "x", ("add", 5))
        world.ask("ann", "x", ("add", -10 ** 9))
        world.ask("ann", "x", ("get",))
        world.ask("ann", "x", ("boxes",))
        world.ask("ann", "x", ("take", "b"), gift="x")
        world.ask("ann", "x", ("take", "into"), gift="with")
        world.ask("ann", "x", ("give", "b"), target="z")
        world.ask("ann", "x", ("clear", "b"))
        world.ask("ann", "x", ("make",), target="into")
        world.ask("ann", "x", ("clone",), target="x")
        world.share("ann", "x", "y")
        world.drop("ann", "y")
        world.send("ann", "x", "with", "into")
        world.move(2, 0, 1)
        world.deliver(12)
        world.rest()
        world.tidy(0, 0, "into")
        world.look()
        rows = str(world).split("\n")
        self.assertEqual(rows[:16], [
            "make ann x 0", "make ann with 2", "ask ann x add 5", "ask ann x add -1000000000", "ask ann x get",
            "ask ann x boxes", "ask ann x take b with x", "ask ann x take into with with", "ask ann x give b into z",
            "ask ann x clear b", "ask ann x make into into", "ask ann x clone into x", "share ann x y", "drop ann y",
            "send ann x with into", "move 2 0 1",
        ])
        self.assertEqual(rows[16:18], ["deliver 12", "deliver 0"])
        self.assertEqual(set(rows[17:-2]), {"deliver 0"})
        self.assertEqual(rows[-2:], ["tidy 0 0 into", "look"])
        self.assertEqual(len(rows), len(world.history()))


class QuestionsTest(WorldCase):
    def test_names_are_ascending(self):
        world = self.new_world()
        for name in ["y", "with", "x", "a", "yy"]:
            world.make("bob", name, 1)
        self.assertEqual(world.names("bob"), ["a", "with", "x", "y", "yy"])
        self.assertEqual(world.names("ann"), [])

    def test_slots_are_in_order(self):
        world = self.new_world()
        for name in ["a", "b", "c", "d"]:
            world.make("ann", name, 1)
        world.drop("ann", "b")
        world.rest()
        world.move(1, 2, 0)
        world.ask("ann", "d", ("get",))
        self.assertEqual(world.slots(1), [(0, "object", 0, (0, 1)), (2, "departing", 0, (0, 1)), (3, "object", 0, (0, 1))])
        world.make("ann", "e", 1)
        self.assertEqual([row[0] for row in world.slots(1)], [0, 1, 2, 3])
        self.assertEqual(world.slots(0), [])

    def test_the_boxes_inside_are_ascending(self):
        world = self.boxed()
        for box in ["z", "a", "c"]:
            world.ask("ann", "x", ("take", box), gift="y")
        world.rest()
        self.assertEqual(list(world.inside(0, 0)[2]), ["a", "b", "c", "z"])

    def test_history_has_each_event_once(self):
        world = self.new_world()
        self.assertEqual(world.history(), [])
        world.make("ann", "x", 0)
        world.ask("ann", "x", ("take", "b"), gift="x")
        world.ask("ann", "x", ("give", "b"), target="y")
        world.ask("ann", "x", ("add", -5))
        world.share("ann", "x", "z")
        world.drop("ann", "z")
        world.send("ann", "x", "bob", "x")
        world.deliver(5 - 1)
        world.deliver(place=0)
        world.rest(by=lambda letters: 1)
        world.move(0, 0, 2)
        world.rest()
        world.tidy(2, 0, "b")
        world.look()
        history = world.history()
        self.assert_exact(history[:9], [
            ("make", "ann", "x", 0), ("ask", "ann", "x", ("take", "b"), "x", None),
            ("ask", "ann", "x", ("give", "b"), None, "y"), ("ask", "ann", "x", ("add", -5), None, None),
            ("share", "ann", "x", "z"), ("drop", "ann", "z"), ("send", "ann", "x", "bob", "x"), ("deliver", 4),
            ("deliver", 0),
        ])
        self.assert_exact(history[-5:], [("move", 0, 0, 2), ("deliver", 0), ("deliver", 0), ("tidy", 2, 0, "b"), ("look",)])
        self.assertEqual({event[0] for event in history[9:-5]}, {"deliver"})

    def test_log(self):
        world = self.new_world()
        self.assertEqual(world.log(), [])
        world.make("ann", "x", 0)
        world.ask("ann", "x", ("take", "b"), gift="x")
        world.ask("ann", "x", ("make",), target="y")
        world.send("ann", "x", "bob", "w")
        world.send("ann", "x", "ann", "w")
        world.share("ann", "x", "z")
        world.drop("ann", "z")
        world.look()
        for told in [("ask", 2, 0, 0), ("gift", "ann", "w"), ("ask", 1, 0, 0), ("answer", 1), ("gift", "bob", "w"), ("answer", 2)]:
            self.deliver_told(world, told)
        world.rest()
        world.move(0, 0, 1)
        world.rest()
        world.tidy(1, 0, "b")
        world.rest()
        self.assert_exact(world.log(), [
            ("make", "ann", "x"), ("ask", "ann", "x", ("take", "b"), "x", None), ("ask", "ann", "x", ("make",), None, "y"),
            ("send", "ann", "x", "bob", "w"), ("send", "ann", "x", "ann", "w"), ("share", "ann", "x", "z"),
            ("drop", "ann", "z"), ("handled", 2), ("given", 2), ("handled", 1), ("answered", 1), ("given", 1), ("answered", 2),
        ])

    def test_an_ask_that_comes_to_wait_or_passes_notes_is_logged_when_it_is_handled(self):
        world = self.new_world()
        world.make("ann", "x", 0)
        world.move(0, 0, 1)
        world.ask("ann", "x", ("get",))
        self.deliver_kind(world, "ask")
        self.deliver_kind(world, "object")
        self.deliver_kind(world, "reply")
        self.assertEqual(len(world.log()), 2)
        self.deliver_kind(world, "ask")
        self.assertEqual(world.log()[2:], [("handled", 1)])


if __name__ == "__main__":
    unittest.main()

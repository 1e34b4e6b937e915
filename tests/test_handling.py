"""Points 8 and 11: each deed, handled by an object: the value, the yield, what goes back; answers and how they come."""

import unittest

from tests.cases import WorldCase


class NumbersTest(WorldCase):
    def test_get_and_add(self):
        world = self.new_world()
        world.make("ann", "x", 0)
        asked = [(("get",), 0), (("add", 5), 5), (("add", -7), -2), (("get",), -2), (("add", 0), -2),
                 (("add", 10 ** 9), 10 ** 9 - 2), (("add", -10 ** 9), -2), (("add", -10 ** 9), -10 ** 9 - 2)]
        for ticket, (deed, value) in enumerate(asked, 1):
            world.ask("ann", "x", deed)
            world.rest()
            self.assert_exact(world.answer(ticket), value)
            self.object_at(world, 0, 0, {}, told=value)
        self.assert_exact(world.address("ann", "x"), (0, 0, 0, (1, 1)))

    def test_0_and_1_are_integers_and_yes_and_no_are_booleans(self):
        world = self.boxed()
        world.ask("ann", "x", ("get",))
        world.ask("ann", "x", ("add", 1))
        world.ask("ann", "x", ("clear", "b"))
        world.ask("ann", "x", ("clear", "b"))
        world.rest()
        self.assert_exact([world.answer(ticket) for ticket in [2, 3, 4, 5]], [0, 1, True, False])

    def test_the_order_in_which_they_come(self):
        world = self.new_world()
        world.make("ann", "x", 0)
        world.ask("ann", "x", ("add", 1))
        world.ask("ann", "x", ("add", 10))
        self.deliver_told(world, ("ask", 2, 0, 0))
        self.deliver_told(world, ("ask", 1, 0, 0))
        world.rest()
        self.assert_exact((world.answer(1), world.answer(2)), (11, 10))


class BoxesTest(WorldCase):
    def test_boxes(self):
        world = self.new_world()
        world.make("ann", "x", 0)
        world.ask("ann", "x", ("boxes",))
        for box in ["c", "a", "into", "b"]:
            world.ask("ann", "x", ("take", box), gift="x")
        world.ask("ann", "x", ("boxes",))
        world.rest()
        self.assert_exact(world.answer(1), ())
        self.assert_exact(world.answer(6), ("a", "b", "c", "into"))

    def test_take_sets_a_new_box(self):
        world = self.new_world()
        world.make("ann", "x", 0)
        world.make("ann", "y", 1)
        world.ask("ann", "x", ("take", "b"), gift="y")
        world.deliver()
        self.assertEqual(world.letters(), [("answer", 1)])
        self.object_at(world, 0, 0, {"b": (1, 0, 0, (1, 2))})
        world.rest()
        self.assert_exact(world.answer(1), False)

    def test_take_sets_a_box_anew(self):
        world = self.boxed()
        world.make("ann", "z", 2)
        world.ask("ann", "x", ("take", "b"), gift="z")
        world.deliver()
        self.assert_exact(world.letters(), [("back", 1, 0, (1, 2)), ("answer", 2)])
        self.object_at(world, 0, 0, {"b": (2, 0, 0, (1, 2))})
        world.rest()
        self.assert_exact(world.answer(2), True)
        self.assert_exact(world.slots(1), [(0, "object", 0, (1, 2))])

    def test_take_of_an_address_of_the_same_object_is_no_update(self):
        world = self.boxed()
        world.ask("ann", "x", ("take", "b"), gift="y")
        world.deliver()
        self.assert_exact(world.letters(), [("back", 1, 0, (1, 2)), ("answer", 2)])
        self.object_at(world, 0, 0, {"b": (1, 0, 0, (1, 4))})

    def test_clear(self):
        world = self.boxed()
        world.ask("ann", "x", ("clear", "c"))
        world.deliver()
        self.assert_exact(world.letters(), [("answer", 2)])
        world.ask("ann", "x", ("clear", "b"))
        world.deliver(1)
        self.assert_exact(world.letters(), [("answer", 2), ("back", 1, 0, (1, 2)), ("answer", 3)])
        self.object_at(world, 0, 0, {})
        world.rest()
        self.assert_exact((world.answer(2), world.answer(3)), (False, True))

    def test_give(self):
        world = self.boxed()
        world.ask("ann", "x", ("give", "b"), target="t")
        world.deliver()
        self.assertEqual(world.letters(), [("answer", 2)])
        self.object_at(world, 0, 0, {"b": (1, 0, 0, (1, 4))})
        self.assertEqual(world.names("ann"), ["x", "y"])
        world.deliver()
        self.assert_exact(world.address("ann", "t"), (1, 0, 0, (1, 4)))
        self.assert_exact(world.answer(2), True)

    def test_give_without_the_box_has_no_yield(self):
        world = self.boxed()
        world.ask("ann", "x", ("give", "c"), target="t")
        world.ask("ann", "x", ("give", "c"), target="y")
        world.rest()
        self.assertEqual(world.names("ann"), ["x", "y"])
        self.assert_exact(world.address("ann", "y"), (1, 0, 0, (1, 2)))
        self.assert_exact((world.answer(2), world.answer(3)), (False, False))


class MakeAndCloneTest(WorldCase):
    def test_make(self):
        world = self.boxed()
        world.ask("ann", "y", ("make",), target="t")
        world.deliver()
        self.assert_exact(world.slots(1), [(0, "object", 0, (0, 1)), (1, "object", 0, (0, 1))])
        self.object_at(world, 1, 1, {})
        world.deliver()
        self.assert_exact(world.address("ann", "t"), (1, 1, 0, (1, 1)))
        self.assert_exact(world.answer(2), True)

    def test_make_where_the_deed_is_handled(self):
        world = self.new_world()
        world.make("ann", "x", 0)
        world.move(0, 0, 2)
        world.ask("ann", "x", ("make",), target="t")
        world.rest()
        self.assert_exact(world.address("ann", "t"), (2, 1, 0, (1, 1)))

    def test_clone(self):
        world = self.boxed()
        world.ask("ann", "x", ("add", 7))
        world.ask("ann", "x", ("take", "a"), gift="x")
        world.rest()
        world.ask("ann", "x", ("clone",), target="t")
        world.deliver()
        self.assertEqual(world.letters(), [("answer", 4)])
        boxes = {"a": (0, 0, 0, (1, 16)), "b": (1, 0, 0, (1, 4))}
        self.object_at(world, 0, 0, boxes, told=7)
        self.object_at(world, 0, 1, boxes, told=7)
        world.deliver()
        self.assert_exact(world.address("ann", "t"), (0, 1, 0, (1, 1)))
        self.assert_exact(world.answer(4), True)

    def test_a_clone_is_of_age_0_and_its_own(self):
        world = self.boxed()
        world.move(0, 0, 2)
        world.rest()
        world.ask("ann", "x", ("clone",), target="t")
        world.rest()
        self.assert_exact(world.address("ann", "t"), (2, 1, 0, (1, 1)))
        world.ask("ann", "t", ("add", 3))
        world.ask("ann", "t", ("clear", "b"))
        world.rest()
        self.object_at(world, 2, 1, {}, told=3)
        self.object_at(world, 2, 0, {"b": (1, 0, 0, (1, 4))})

    def test_the_boxes_of_a_clone_are_settings_of_their_own(self):
        world = self.boxed()
        world.tidy(0, 0, "b")
        world.ask("ann", "x", ("clone",), target="t")
        self.deliver_kind(world, "ask")
        world.rest()
        self.assert_exact(world.inside(0, 0)[2]["b"][3], (3, 8))
        self.assert_exact(world.inside(0, 1)[2]["b"][3], (1, 8))


class AnswersTest(WorldCase):
    def test_the_answer_updates_the_variable(self):
        world = self.new_world()
        world.make("ann", "x", 0)
        world.ask("ann", "x", ("get",))
        world.deliver()
        self.assert_exact(world.address("ann", "x"), (0, 0, 0, (1, 2)))
        world.deliver()
        self.assert_exact(world.address("ann", "x"), (0, 0, 0, (1, 1)))
        self.assertEqual(world.letters(), [])

    def test_by_an_address_of_a_greater_age(self):
        world = self.new_world()
        world.make("ann", "x", 0)
        world.move(0, 0, 1)
        world.rest()
        world.ask("ann", "x", ("get",))
        world.rest()
        self.assert_exact(world.address("ann", "x"), (1, 0, 1, (1, 2)))
        self.assertEqual(world.slots(0), [])

    def test_what_the_greater_age_replaced_goes_back(self):
        world = self.new_world()
        world.make("ann", "x", 0)
        world.share("ann", "x", "y")
        world.move(0, 0, 1)
        world.rest()
        world.ask("ann", "x", ("get",))
        world.deliver()
        world.deliver()
        world.deliver()
        self.assert_exact(world.address("ann", "x"), (1, 0, 1, (1, 2)))
        self.assert_exact(world.letters(), [("back", 0, 0, (1, 4))])

    def test_an_address_of_a_lesser_age_goes_back(self):
        world = self.new_world()
        world.make("ann", "x", 0)
        world.ask("ann", "x", ("get",))
        world.deliver()
        world.move(0, 0, 1)
        world.ask("ann", "x", ("add", 1))
        self.deliver_kind(world, "object")
        self.deliver_kind(world, "reply")
        self.deliver_kind(world, "ask")
        self.deliver_kind(world, "ask")
        self.deliver_told(world, ("answer", 2))
        self.assert_exact(world.address("ann", "x")[:3], (1, 0, 1))
        before = world.address("ann", "x")
        self.deliver_told(world, ("answer", 1))
        self.assert_exact(world.letters()[-1], ("back", 0, 0, (1, 2)))
        self.assert_exact(world.address("ann", "x"), before)
        self.assert_exact(world.answer(1), 0)

    def test_the_variable_was_dropped(self):
        world = self.new_world()
        world.make("ann", "x", 0)
        world.share("ann", "x", "y")
        world.ask("ann", "x", ("add", 4))
        world.drop("ann", "x")
        world.deliver()
        self.deliver_told(world, ("answer", 1))
        self.assert_exact(world.letters(), [("back", 0, 0, (1, 4)), ("back", 0, 0, (1, 4))])
        self.assertEqual(world.names("ann"), ["y"])
        self.assert_exact(world.answer(1), 4)

    def test_the_variable_was_set_anew(self):
        world = self.new_world()
        for again in ["make", "share", "target", "gift"]:
            world = self.new_world()
            world.make("ann", "x", 0)
            world.share("ann", "x", "y")
            world.ask("ann", "x", ("add", 4))
            self.set_anew(world, again)
            before = world.address("ann", "x")
            self.deliver_told(world, ("answer", 1))
            self.assert_exact(world.address("ann", "x"), before, again)
            self.assert_exact(world.letters()[-1], ("back", 0, 0, (1, 4)), again)
            self.assert_exact(world.answer(1), 4)

    def set_anew(self, world, again):
        if again == "make":
            world.make("ann", "x", 1)
        elif again == "share":
            world.share("ann", "y", "x")
        elif again == "gift":
            world.send("ann", "y", "ann", "x")
            self.deliver_kind(world, "gift")
        else:
            world.ask("ann", "y", ("make",), target="x")
            self.deliver_told(world, ("ask", 2, 0, 0))
            self.deliver_told(world, ("answer", 2))
        self.deliver_told(world, ("ask", 1, 0, 0))

    def test_dropped_and_set_again_is_another_setting(self):
        world = self.new_world()
        world.make("ann", "x", 0)
        world.share("ann", "x", "y")
        world.ask("ann", "x", ("get",))
        world.drop("ann", "x")
        world.share("ann", "y", "x")
        world.deliver()
        self.deliver_told(world, ("answer", 1))
        self.assert_exact(world.address("ann", "x"), (0, 0, 0, (1, 4)))

    def test_the_target_is_the_variable_through_which_was_asked(self):
        world = self.boxed()
        world.ask("ann", "x", ("give", "b"), target="x")
        world.deliver()
        world.deliver()
        self.assert_exact(world.address("ann", "x"), (1, 0, 0, (1, 4)))
        self.assert_exact(world.letters(), [("back", 0, 0, (1, 1))])

    def test_first_the_update_and_then_the_target(self):
        world = self.new_world()
        world.make("ann", "x", 0)
        world.make("ann", "t", 2)
        world.share("ann", "x", "y")
        world.move(0, 0, 1)
        world.rest()
        world.ask("ann", "x", ("make",), target="t")
        for step in range(3):
            world.deliver()
        self.assert_exact(world.letters(), [("back", 0, 0, (1, 4)), ("back", 2, 0, (1, 1))])

    def test_the_target_is_set_also_if_the_variable_was_dropped(self):
        world = self.new_world()
        world.make("ann", "x", 0)
        world.ask("ann", "x", ("make",), target="t")
        world.drop("ann", "x")
        world.rest()
        self.assert_exact(world.names("ann"), ["t"])
        self.assert_exact(world.address("ann", "t"), (0, 1, 0, (1, 1)))
        self.assertEqual([row[0] for row in world.slots(0)], [1])

    def test_the_target_belongs_to_the_asker(self):
        world = self.new_world()
        world.make("ann", "x", 0)
        world.send("ann", "x", "bob", "x")
        world.rest()
        world.ask("bob", "x", ("make",), target="t")
        world.rest()
        self.assertEqual((world.names("ann"), world.names("bob")), (["x"], ["t", "x"]))

    def test_two_answers_through_one_variable_in_any_order(self):
        for first, second in [(1, 2), (2, 1)]:
            world = self.new_world()
            world.make("ann", "x", 0)
            world.ask("ann", "x", ("add", 1))
            world.ask("ann", "x", ("add", 1))
            world.deliver()
            world.deliver()
            self.deliver_told(world, ("answer", first))
            self.deliver_told(world, ("answer", second))
            self.assert_exact(world.address("ann", "x"), (0, 0, 0, (1, 1)))
            self.assert_exact((world.answer(1), world.answer(2)), (1, 2))
            self.assertEqual(world.letters(), [])

    def test_the_gift_is_what_the_variable_held_when_it_was_asked(self):
        world = self.new_world()
        world.make("ann", "x", 0)
        world.make("ann", "y", 1)
        world.ask("ann", "x", ("take", "b"), gift="y")
        world.make("ann", "y", 2)
        world.rest()
        self.object_at(world, 0, 0, {"b": (1, 0, 0, (1, 2))})
        self.assert_exact(world.slots(1), [(0, "object", 0, (1, 2))])


if __name__ == "__main__":
    unittest.main()

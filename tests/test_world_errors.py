"""Each method of World with each argument wrong, and with two and more wrong at once: the error that is due first.

Nothing is changed by it, and the next ask, gift and look have the numbers that they would have had.
"""

import unittest

from tests.cases import NO_DEEDS, NO_NAMES, NO_NUMBERS, WorldCase
from trailparts.errors import (
    NoBox, NoDeed, NoHand, NoHouse, NoLetter, NoName, NoObject, NoSlot, NoTicket, NotYet,
)
from trailparts.trails import notes_ahead, notes_passed, trail_from

NO_HAND = NO_NAMES + ["cat", "an", "anns", "x"]
NO_VARIABLE = NO_NAMES + ["nope", "z", "q"]
NO_HOUSE = NO_NUMBERS + [3, 4, 6]
NO_BOX = NO_NAMES + ["c", "y"]
NO_TICKET = NO_NUMBERS + [0, 3, 4]

DEED = {"deed": ("get",), "gift": None, "target": None}


class ErrorsCase(WorldCase):
    def full_world(self):
        """Return a world with objects, a departing slot, a note, letters of several kinds, and asks at all stages.

        House 0 has objects at 0 and 1, house 1 an object at 0 and a departing slot at 1, house 2 an object at 0 and a
        note at 1. Ticket 1 is answered, ticket 2 is not.
        """
        world = self.new_world()
        world.make("ann", "x", 0)
        world.make("ann", "y", 1)
        world.make("bob", "z", 2)
        world.ask("ann", "x", ("take", "b"), gift="y")
        world.rest()
        world.make("ann", "u", 2)
        world.move(2, 1, 0)
        world.rest()
        world.make("ann", "d", 1)
        world.move(1, 1, 2)
        world.send("ann", "x", "bob", "w")
        world.ask("ann", "x", ("get",))
        self.assertEqual([row[1] for row in world.slots(1)], ["object", "departing"])
        self.assertEqual([row[1] for row in world.slots(2)], ["object", "note"])
        return world

    def check_order(self, method, good, due):
        """Check all ways to have arguments wrong.

        good: right arguments by their names. due: for each error, in the order in which they are due, (argument, error,
        field, wrong values). An argument may be due twice.
        """
        for first, (argument, error, field, wrong) in enumerate(due):
            later = due[first + 1:]
            for at, value in enumerate(wrong):
                for mask in range(2 ** len(later)) if at < 4 else [0, 2 ** len(later) - 1]:
                    given = dict(good)
                    for place, (other, unused, unused_too, values) in enumerate(later):
                        if mask >> place & 1:
                            given[other] = values[at % len(values)]
                    given[argument] = value
                    with self.subTest(method=method, given=given):
                        self.refused_by(method, error, field, value, given)

    def refused_by(self, method, error, field, value, given):
        world = self.full_world()
        self.assert_refused(world, error, field, value, getattr(world, method), **given)


class HandDeedsTest(ErrorsCase):
    def test_make(self):
        self.check_order("make", {"hand": "ann", "name": "x", "house": 1}, [
            ("hand", NoHand, "hand", NO_HAND),
            ("name", NoName, "name", NO_NAMES),
            ("house", NoHouse, "house", NO_HOUSE),
        ])

    def test_ask(self):
        self.check_order("ask", {"hand": "ann", "name": "x", **DEED}, [
            ("hand", NoHand, "hand", NO_HAND),
            ("name", NoName, "name", NO_VARIABLE),
            ("deed", NoDeed, "deed", NO_DEEDS),
        ])

    def test_ask_with_a_gift(self):
        self.check_order("ask", {"hand": "ann", "name": "x", "deed": ("take", "b"), "gift": "x", "target": None}, [
            ("hand", NoHand, "hand", NO_HAND),
            ("name", NoName, "name", NO_VARIABLE),
            ("deed", NoDeed, "deed", NO_DEEDS),
            ("gift", NoName, "name", [name for name in NO_VARIABLE if name is not None]),
        ])

    def test_ask_with_a_target(self):
        for deed in [("give", "b"), ("make",), ("clone",)]:
            self.check_order("ask", {"hand": "ann", "name": "x", "deed": deed, "gift": None, "target": "t"}, [
                ("hand", NoHand, "hand", NO_HAND[:3]),
                ("name", NoName, "name", NO_VARIABLE[:3]),
                ("deed", NoDeed, "deed", NO_DEEDS[:3]),
                ("target", NoName, "name", [name for name in NO_NAMES if name is not None]),
            ])

    def test_a_variable_of_another_hand_is_none_of_this_one(self):
        world = self.full_world()
        self.assert_refused(world, NoName, "name", "x", world.ask, "bob", "x", ("get",))
        self.assert_refused(world, NoName, "name", "x", world.ask, "bob", "z", ("take", "b"), gift="x")
        self.assert_refused(world, NoName, "name", "x", world.share, "bob", "x", "z")
        self.assert_refused(world, NoName, "name", "x", world.drop, "bob", "x")
        self.assert_refused(world, NoName, "name", "x", world.send, "bob", "x", "ann", "z")
        self.assert_refused(world, NoName, "name", "x", world.address, "bob", "x")

    def test_a_gift_or_a_target_that_is_missing_or_too_much(self):
        plain = [("get",), ("add", 1), ("boxes",), ("clear", "b")]
        for deed in plain + [("take", "b"), ("give", "b"), ("make",), ("clone",)]:
            for gift in [None, "x", "nope", "B", 0, False, ""]:
                for target in [None, "t", "x", "T", 0, False, ""]:
                    right = (gift is not None) == (deed[0] == "take")
                    right = right and (target is not None) == (deed in [("give", "b"), ("make",), ("clone",)])
                    given = {"hand": "ann", "name": "x", "deed": deed, "gift": gift, "target": target}
                    with self.subTest(given=given):
                        if not right:
                            self.refused_by("ask", NoDeed, "deed", deed, given)
                            self.refused_by("ask", NoName, "name", "nope", {**given, "name": "nope"})

    def test_share(self):
        self.check_order("share", {"hand": "ann", "name": "x", "new": "y"}, [
            ("hand", NoHand, "hand", NO_HAND),
            ("name", NoName, "name", NO_VARIABLE),
            ("new", NoName, "name", NO_NAMES),
        ])

    def test_drop(self):
        self.check_order("drop", {"hand": "ann", "name": "x"}, [
            ("hand", NoHand, "hand", NO_HAND),
            ("name", NoName, "name", NO_VARIABLE),
        ])

    def test_send(self):
        self.check_order("send", {"hand": "ann", "name": "x", "to": "bob", "new": "y"}, [
            ("hand", NoHand, "hand", NO_HAND),
            ("to", NoHand, "hand", NO_HAND),
            ("name", NoName, "name", NO_VARIABLE),
            ("new", NoName, "name", NO_NAMES),
        ])


class HouseDeedsTest(ErrorsCase):
    def test_move(self):
        self.check_order("move", {"house": 2, "number": 0, "to": 1}, [
            ("house", NoHouse, "house", NO_HOUSE),
            ("number", NoObject, "number", NO_NUMBERS + [1, 2, 3]),
            ("to", NoHouse, "house", NO_HOUSE + [2]),
        ])

    def test_move_from_a_departing_slot(self):
        self.check_order("move", {"house": 1, "number": 0, "to": 0}, [
            ("house", NoHouse, "house", NO_HOUSE),
            ("number", NoObject, "number", [1, 2]),
            ("to", NoHouse, "house", NO_HOUSE + [1]),
        ])

    def test_true_is_not_the_slot_or_the_house_1(self):
        world = self.full_world()
        self.assert_refused(world, NoObject, "number", True, world.move, 0, True, 1)
        self.assert_refused(world, NoObject, "number", False, world.move, 0, False, 1)
        self.assert_refused(world, NoHouse, "house", True, world.move, 0, 1, True)
        self.assert_refused(world, NoHouse, "house", True, world.move, True, 0, 0)
        world.move(0, 1, 1)

    def test_tidy(self):
        self.check_order("tidy", {"house": 0, "number": 0, "box": "b"}, [
            ("house", NoHouse, "house", NO_HOUSE),
            ("number", NoObject, "number", NO_NUMBERS + [2, 3]),
            ("box", NoBox, "box", NO_BOX),
        ])

    def test_tidy_where_no_object_stands_or_it_has_no_such_box(self):
        world = self.full_world()
        self.assert_refused(world, NoObject, "number", 1, world.tidy, 1, 1, "b")
        self.assert_refused(world, NoObject, "number", 1, world.tidy, 2, 1, "b")
        self.assert_refused(world, NoBox, "box", "b", world.tidy, 0, 1, "b")
        self.assert_refused(world, NoBox, "box", "b", world.tidy, 2, 0, "b")

    def test_the_boxes_of_an_object_under_way_cannot_be_tidied(self):
        world = self.full_world()
        world.move(0, 0, 1)
        self.assert_refused(world, NoObject, "number", 0, world.tidy, 0, 0, "b")
        world.rest()
        self.assert_refused(world, NoObject, "number", 0, world.tidy, 0, 0, "b")

    def test_deliver(self):
        count = len(self.full_world())
        self.check_order("deliver", {"place": 0}, [
            ("place", NoLetter, "place", NO_NUMBERS + [count, count + 1, -count]),
        ])
        for place in NO_NUMBERS + [0, 1]:
            world = self.new_world()
            self.assert_refused(world, NoLetter, "place", place, world.deliver, place)
            self.assert_refused(world, NoLetter, "place", 0, world.deliver)


class QuestionsTest(ErrorsCase):
    def test_answer(self):
        self.check_order("answer", {"ticket": 1}, [
            ("ticket", NoTicket, "ticket", NO_TICKET),
        ])

    def test_answer_not_yet(self):
        world = self.full_world()
        self.assertIs(world.answer(1), False)
        while ("answer", 2) not in world.letters():
            self.assert_refused(world, NotYet, "ticket", 2, world.answer, 2)
            world.deliver(len(world) - 1)
        self.assert_refused(world, NotYet, "ticket", 2, world.answer, 2)
        self.deliver_told(world, ("answer", 2))
        self.assert_exact(world.answer(2), 0)

    def test_names(self):
        self.check_order("names", {"hand": "ann"}, [
            ("hand", NoHand, "hand", NO_HAND),
        ])

    def test_address(self):
        self.check_order("address", {"hand": "ann", "name": "x"}, [
            ("hand", NoHand, "hand", NO_HAND),
            ("name", NoName, "name", NO_VARIABLE),
        ])

    def test_slots(self):
        self.check_order("slots", {"house": 1}, [
            ("house", NoHouse, "house", NO_HOUSE),
        ])

    def test_inside(self):
        self.check_order("inside", {"house": 1, "number": 0}, [
            ("house", NoHouse, "house", NO_HOUSE),
            ("number", NoSlot, "number", NO_NUMBERS + [2, 3]),
        ])

    def test_trail_from(self):
        for house in NO_HOUSE:
            world = self.full_world()
            for number in [0, 7, None]:
                self.assert_refused(world, NoHouse, "house", house, trail_from, world, house, number)
        for number in NO_NUMBERS + [2, 3]:
            world = self.full_world()
            self.assert_refused(world, NoSlot, "number", number, trail_from, world, 1, number)

    def test_notes_ahead(self):
        for hand in NO_HAND:
            world = self.full_world()
            for name in ["x", "nope", None]:
                self.assert_refused(world, NoHand, "hand", hand, notes_ahead, world, hand, name)
        for name in NO_VARIABLE:
            world = self.full_world()
            self.assert_refused(world, NoName, "name", name, notes_ahead, world, "ann", name)
        self.assert_refused(world, NoName, "name", "x", notes_ahead, world, "bob", "x")

    def test_notes_passed(self):
        for ticket in NO_TICKET:
            world = self.full_world()
            self.assert_refused(world, NoTicket, "ticket", ticket, notes_passed, world, ticket)
        empty = self.new_world()
        self.assert_refused(empty, NoTicket, "ticket", 1, notes_passed, empty, 1)
        self.assert_refused(empty, NoTicket, "ticket", 1, empty.answer, 1)


if __name__ == "__main__":
    unittest.main()

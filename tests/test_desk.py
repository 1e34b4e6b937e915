"""Point 29: a desk, row by row, beside a world in which the same is done."""

import random
import unittest

from tests.cases import WorldCase
from tests.compare import NAMES, random_event, view
from tests.grammar import event_told
from tests.model import Model
from tests.samples import OTHER_VALUES
from tests.test_history_text import LARGE_PAIRS, NO_ROWS, PAIRS
from trailparts.desk import Desk
from trailparts.errors import (
    NoBox, NoHand, NoHouse, NoLetter, NoName, NoObject, NoSaying, NoTicket, NoWorld, NotYet,
)
from trailparts.histories import history_text, read_history
from trailparts.parts import part_text
from trailparts.trails import notes_ahead
from trailparts.worlds import World

QUESTIONS = ["rest", "letters", "answer 1", "answer 0", "slots 0", "slots 7", "ahead ann x", "ahead with into", "names ann"]
# Rows of a desk that are nearly ones: no row of a history either.
NO_SAYINGS = [row for row in NO_ROWS if row not in ["rest", "letters", "world 2 ann", "answer 1", "slots 0", "ahead ann x",
                                                    "names ann"]] + [
    "world", "world ", "world 2", "world 2 ", "world ann", "world ann 2", "world 2 Ann", "world 2 ann ", "world 2  ann",
    "world  2 ann", " world 2 ann", "world 2 ann  bob", "world 2 ann,bob", "world 2 ann 3", "world 2 ann Bob", "world -1 ann",
    "world -0 ann", "world 02 ann", "world +2 ann", "world 2.0 ann", "world 1000000000 ann", "world 99999999999999999999 ann",
    "world two ann", "world 2 abcdefg", "world 2 ann abcdefg", "world 2 ['ann']", "World 2 ann", "worlds 2 ann", "world 2\nann",
    "rest ", " rest", "rest 0", "rest rest", "Rest", "rests", "rest by", "letters ", "letters 0", "Letters", "letter", "letters ann",
    "answer", "answer ", "answer x", "answer -1", "answer 01", "answer 00", "answer +1", "answer 1 1", "answer 1 ", "answer  1",
    "answer 1000000000", "Answer 1", "answer one", "slots", "slots ", "slots x", "slots -1", "slots 00", "slots 0 0", "slots 0 ",
    "slots 1000000000", "Slots 0", "slot 0", "ahead", "ahead ann", "ahead ann ", "ahead ann x x", "ahead ann X", "ahead Ann x",
    "ahead ann 0", "ahead 0 x", "ahead ann  x", "ahead ann x ", "names", "names ", "names 0", "names Ann", "names ann bob",
    "names ann ", "names abcdefg", "name ann", "address ann x", "inside 0 0", "trail 0 0", "holders 0 0", "history", "log", "play",
    "trial look", "paper 0 0", "look\nlook", "look\n", "\nlook", "rest\n", "rest\nrest", "letters\n", "answer 1\n", "slots 0\n",
    "names ann\n", "world 2 ann\n", "world 2 ann\nlook", "deliver 0\ndeliver 0", "make ann x 0\n", "drop ann x\ndrop ann y", "\n",
    "world\n2\nann", "None", "ok", "yes", "no", "none",
]


class DeskCase(WorldCase):
    def new_desk(self, *rows):
        """Return a desk to which rows were said."""
        desk = Desk()
        for row in rows:
            desk.say(row)
        return desk

    def say(self, desk, row, expected):
        got = desk.say(row)
        self.assert_exact(got, expected, row)

    def state(self, desk, hands=("ann", "bob"), houses=3, tickets=4):
        """Return all that a desk tells."""
        rows = ["letters"] + [f"slots {house}" for house in range(houses)] + [f"answer {at}" for at in range(tickets + 1)]
        for hand in hands:
            rows.append(f"names {hand}")
            rows.extend([f"ahead {hand} {name}" for name in NAMES])
        told = []
        for row in rows:
            try:
                told.append(desk.say(row))
            except (LookupError, RuntimeError) as error:
                told.append((error.__class__, vars(error)))
        return told

    def refused(self, desk, error, field, value, row):
        """Check that a row raises an error and changes nothing."""
        before = self.state(desk)
        self.assert_raises(error, field, value, desk.say, row)
        self.assertEqual(self.state(desk), before)

    def small_rows(self):
        """Return the rows of a world with a note, a box, an answered ask, and one under way."""
        return [
            "world 3 ann bob", "make ann x 0", "make ann y 1", "ask ann x take b with y", "rest", "make bob z 2", "move 1 0 2",
            "rest", "ask ann x add 5",
        ]


class DeskTest(DeskCase):
    def test_a_new_world(self):
        desk = Desk()
        self.say(desk, "world 2 ann", "ok")
        self.say(desk, "letters", "0")
        self.say(desk, "slots 0", "none")
        self.say(desk, "slots 1", "none")
        self.say(desk, "names ann", "none")
        self.assert_raises(NoHouse, "house", 2, desk.say, "slots 2")
        self.assert_raises(NoHand, "hand", "bob", desk.say, "names bob")
        self.say(desk, "world 6 world ask with into rest", "ok")
        self.say(desk, "slots 5", "none")
        for hand in ["world", "ask", "with", "into", "rest"]:
            self.say(desk, "names " + hand, "none")

    def test_the_answers_to_events(self):
        desk = self.new_desk("world 3 ann bob")
        expected = [
            ("make ann x 0", "ok"), ("make ann y 1", "ok"), ("ask ann x take b with y", "1"), ("ask ann x get", "2"),
            ("deliver 1", "ask"), ("deliver 0", "ask"), ("deliver 1", "answer"), ("deliver 0", "answer"),
            ("share ann x u", "ok"), ("drop ann u", "ok"), ("deliver 0", "back"), ("send ann x bob x", "ok"),
            ("deliver 0", "gift"), ("tidy 0 0 b", "ok"), ("deliver 0", "seek"), ("deliver 0", "found"), ("move 1 0 2", "ok"),
            ("deliver 0", "object"), ("deliver 0", "reply"), ("look", "1"), ("look", "2"), ("deliver 0", "look"),
            ("rest", "11"), ("ask ann x clone into u", "3"), ("rest", "2"), ("letters", "0"),
        ]
        for row, answer in expected:
            self.say(desk, row, answer)

    def test_an_empty_letter(self):
        desk = self.new_desk("world 1 ann", "make ann x 0", "ask ann x take b with x", "rest", "drop ann x", "rest")
        for row, answer in [("look", "1"), ("deliver 0", "look"), ("deliver 0", "look"), ("deliver 0", "empty"),
                            ("deliver 0", "back"), ("slots 0", "none"), ("letters", "0")]:
            self.say(desk, row, answer)

    def test_rest_and_letters(self):
        desk = self.new_desk("world 2 ann", "make ann x 0")
        self.say(desk, "letters", "0")
        self.say(desk, "rest", "0")
        desk.say("ask ann x get")
        desk.say("ask ann x get")
        self.say(desk, "letters", "2")
        self.say(desk, "rest", "4")
        self.say(desk, "letters", "0")
        for step in range(6):
            desk.say("share ann x y")
        self.say(desk, "letters", "5")
        self.say(desk, "rest", "5")

    def test_answers_of_each_kind(self):
        desk = self.new_desk("world 2 ann", "make ann x 0")
        rows = [
            ("get", "0"), ("add 5", "5"), ("add -12", "-7"), ("add 1000000000", "999999993"), ("add 1000000000", "1999999993"),
            ("add -1000000000", "999999993"), ("boxes", "none"), ("take b with x", "no"), ("take b with x", "yes"),
            ("boxes", "b"), ("take a with x", "no"), ("take into with x", "no"), ("boxes", "a b into"), ("give a into y", "yes"),
            ("give c into y", "no"), ("clear b", "yes"), ("clear b", "no"), ("make into y", "yes"), ("clone into y", "yes"),
            ("add -999999992", "1"), ("add -1", "0"),
        ]
        for ticket, (deed, answer) in enumerate(rows, 1):
            self.say(desk, "ask ann x " + deed, str(ticket))
            self.assert_raises(NotYet, "ticket", ticket, desk.say, f"answer {ticket}")
            desk.say("rest")
            self.say(desk, f"answer {ticket}", answer)
        for ticket, (deed, answer) in enumerate(rows, 1):
            self.say(desk, f"answer {ticket}", answer)

    def test_a_box_called_none(self):
        desk = self.new_desk("world 2 ann", "make ann x 0", "ask ann x take none with x", "rest", "ask ann x boxes", "rest")
        self.say(desk, "answer 2", "none")

    def test_slots(self):
        desk = self.new_desk("world 2 ann", "make ann x 1")
        self.say(desk, "slots 1", "0 object 0 0")
        self.say(desk, "slots 0", "none")
        for row in ["make ann y 1", "make ann z 1", "share ann y u", "drop ann y", "deliver 0", "drop ann x", "deliver 0"]:
            desk.say(row)
        self.say(desk, "slots 1", "1 object 0 1/2, 2 object 0 0")
        desk.say("move 1 1 0")
        self.say(desk, "slots 1", "1 departing 0 1/2, 2 object 0 0")
        desk.say("deliver 0")
        self.say(desk, "slots 0", "0 object 1 0")
        desk.say("deliver 0")
        self.say(desk, "slots 1", "1 note 0 1/2, 2 object 0 0")
        for row in ["share ann z w", "drop ann w", "rest", "share ann z w", "share ann w w", "rest"]:
            desk.say(row)
        self.say(desk, "slots 1", "1 note 0 1/2, 2 object 0 5/8")

    def test_the_purse_of_a_departing_slot_may_be_the_whole(self):
        desk = self.new_desk("world 2 ann", "make ann x 0", "drop ann x", "move 0 0 1", "deliver 0")
        self.say(desk, "slots 0", "0 departing 0 1")

    def test_long_parts(self):
        desk = self.new_desk("world 1 ann", "make ann x 0")
        for step in range(70):
            desk.say("share ann x y")
        desk.say("rest")
        self.say(desk, "slots 0", f"0 object 0 {2 ** 69 - 1}/{2 ** 69}")

    def test_ahead(self):
        desk = self.new_desk("world 3 ann", "make ann x 0")
        self.say(desk, "ahead ann x", "0")
        desk.say("move 0 0 1")
        self.say(desk, "ahead ann x", "1")
        desk.say("rest")
        self.say(desk, "ahead ann x", "1")
        desk.say("move 1 0 2")
        self.say(desk, "ahead ann x", "2")
        for row in ["rest", "ask ann x get", "rest"]:
            desk.say(row)
        self.say(desk, "ahead ann x", "0")

    def test_names(self):
        desk = self.new_desk("world 1 ann bob", "make ann y 0", "make ann x 0", "make ann none 0", "make ann a 0")
        self.say(desk, "names ann", "a none x y")
        self.say(desk, "names bob", "none")
        desk.say("drop ann none")
        self.say(desk, "names ann", "a x y")
        desk.say("make bob b 0")
        self.say(desk, "names bob", "b")

    def test_arguments_by_name(self):
        desk = Desk()
        self.assertEqual(desk.say(row="world 1 ann"), "ok")


class RefusedTest(DeskCase):
    def test_what_is_no_row(self):
        empty = Desk()
        full = self.new_desk(*self.small_rows())
        before = self.state(full)
        for row in OTHER_VALUES + NO_SAYINGS + [["look"], ("look",), {"look": 1}, b"look", ["rest"], True, ("deliver", 0)]:
            self.assert_raises(NoSaying, None, None, empty.say, row)
            self.assert_raises(NoSaying, None, None, full.say, row)
        self.assertEqual(self.state(full), before)

    def test_long_rows(self):
        desk = self.new_desk("world 1 ann")
        for row in ["look" * 1000, "answer " + "1" * 3900, "slots " + "0" * 3900, "world " + "2" * 3900 + " ann", " " * 4000,
                    "names " + "a" * 3900, "answer " + "1" * 9000]:
            self.assert_raises(NoSaying, None, None, desk.say, row)

    def test_without_a_world(self):
        desk = Desk()
        for row in QUESTIONS + [row for row, event in PAIRS + LARGE_PAIRS]:
            self.assert_raises(NoWorld, None, None, desk.say, row)

    def test_after_a_world_that_was_none(self):
        desk = Desk()
        self.assert_raises(NoHouse, "house", 0, desk.say, "world 0 ann")
        self.assert_raises(NoHand, "hand", ["ann", "ann"], desk.say, "world 1 ann ann")
        self.assert_raises(NoWorld, None, None, desk.say, "letters")
        self.say(desk, "world 1 ann", "ok")
        self.say(desk, "letters", "0")

    def test_worlds_that_are_none(self):
        desk = self.new_desk(*self.small_rows())
        for houses in [0, 7, 8, 60, 999999999]:
            self.refused(desk, NoHouse, "house", houses, f"world {houses} ann")
            self.refused(desk, NoHouse, "house", houses, f"world {houses} ann ann")
            self.refused(desk, NoHouse, "house", houses, f"world {houses} a b c d e f")
        for hands in [["ann", "ann"], ["a", "b", "a"], ["a", "b", "c", "d", "e", "f"], ["a"] * 20]:
            self.refused(desk, NoHand, "hand", hands, "world 6 " + " ".join(hands))

    def test_the_errors_of_the_functions(self):
        desk = self.new_desk(*self.small_rows())
        wrong = [
            ("make cat x 9", NoHand, "hand", "cat"), ("make ann x 3", NoHouse, "house", 3),
            ("make ann x 999999999", NoHouse, "house", 999999999), ("ask cat q get", NoHand, "hand", "cat"),
            ("ask ann q get", NoName, "name", "q"), ("ask bob x get", NoName, "name", "x"),
            ("ask ann q take b with r", NoName, "name", "q"), ("ask ann x take b with r", NoName, "name", "r"),
            ("ask ann x take b with z", NoName, "name", "z"), ("share cat q x", NoHand, "hand", "cat"),
            ("share ann q x", NoName, "name", "q"), ("drop cat q", NoHand, "hand", "cat"), ("drop ann q", NoName, "name", "q"),
            ("send cat q dog x", NoHand, "hand", "cat"), ("send ann q dog x", NoHand, "hand", "dog"),
            ("send ann q bob x", NoName, "name", "q"), ("move 3 9 3", NoHouse, "house", 3), ("move 0 9 3", NoObject, "number", 9),
            ("move 1 0 3", NoObject, "number", 0), ("move 0 0 3", NoHouse, "house", 3), ("move 0 0 0", NoHouse, "house", 0),
            ("move 999999999 0 0", NoHouse, "house", 999999999), ("tidy 3 9 q", NoHouse, "house", 3),
            ("tidy 0 9 q", NoObject, "number", 9), ("tidy 1 0 q", NoObject, "number", 0), ("tidy 0 0 q", NoBox, "box", "q"),
            ("deliver 1", NoLetter, "place", 1), ("deliver 999999999", NoLetter, "place", 999999999),
            ("answer 0", NoTicket, "ticket", 0), ("answer 3", NoTicket, "ticket", 3),
            ("answer 999999999", NoTicket, "ticket", 999999999), ("answer 2", NotYet, "ticket", 2),
            ("slots 3", NoHouse, "house", 3), ("slots 999999999", NoHouse, "house", 999999999), ("ahead cat q", NoHand, "hand", "cat"),
            ("ahead ann q", NoName, "name", "q"), ("ahead bob x", NoName, "name", "x"), ("names cat", NoHand, "hand", "cat"),
        ]
        for row, error, field, value in wrong:
            self.refused(desk, error, field, value, row)
        self.say(desk, "ask ann x get", "3")
        self.say(desk, "look", "1")

    def test_deliver_where_nothing_is_under_way(self):
        desk = self.new_desk("world 1 ann")
        self.refused(desk, NoLetter, "place", 0, "deliver 0")


class DesksTest(DeskCase):
    def test_two_desks_share_nothing(self):
        one = self.new_desk(*self.small_rows())
        other = Desk()
        self.assert_raises(NoWorld, None, None, other.say, "letters")
        other.say("world 3 ann bob")
        self.say(other, "names ann", "none")
        before = self.state(one)
        for row in ["make ann x 0", "move 0 0 1", "ask ann x get", "look", "rest", "drop ann x", "rest"]:
            other.say(row)
        self.assertEqual(self.state(one), before)

    def test_a_new_world_knows_nothing_of_the_elder_one(self):
        desk = self.new_desk(*self.small_rows(), "look", "send ann x bob y")
        desk.say("world 3 ann bob")
        self.assertEqual(self.state(desk), self.state(self.new_desk("world 3 ann bob")))
        self.assert_raises(NoTicket, "ticket", 1, desk.say, "answer 1")
        self.say(desk, "make ann x 0", "ok")
        self.say(desk, "ask ann x get", "1")
        self.say(desk, "look", "1")
        self.say(desk, "rest", "8")
        self.say(desk, "answer 1", "0")
        desk.say("world 2 cat")
        self.assert_raises(NoHand, "hand", "ann", desk.say, "names ann")
        self.assert_raises(NoHouse, "house", 2, desk.say, "slots 2")

    def test_beside_a_world_on_drawn_histories(self):
        weights = {"make": 3, "ask": 14, "share": 2, "drop": 2, "send": 2, "move": 5, "tidy": 3, "look": 1, "deliver": 26}
        for seed in range(12):
            chance = random.Random(seed)
            houses, hands = [(3, ["ann", "bob"]), (1, ["with"]), (6, ["a", "look", "ask"])][seed % 3]
            desk = self.new_desk("world " + " ".join([str(houses)] + hands))
            world = World(houses, hands)
            model = Model(houses, hands)
            with self.subTest(seed=seed):
                for step in range(100):
                    event = random_event(chance, model, weights)
                    row = history_text([event])
                    self.assertEqual(read_history(row), [event_told(row)])
                    got = self.do(world, event)
                    self.do(model, event)
                    expected = "ok" if got is None else got[0] if event[0] == "deliver" else str(got)
                    self.say(desk, row, expected)
                    self.compare(desk, world, houses, hands)
                self.say(desk, "rest", str(world.rest()))
                self.compare(desk, world, houses, hands)

    def do(self, world, event):
        if event[0] == "ask":
            return world.ask(*event[1:4], gift=event[4], target=event[5])
        return getattr(world, event[0])(*event[1:])

    def compare(self, desk, world, houses, hands):
        """Compare all that a desk tells with what a world tells."""
        seen = view(world, houses, hands)
        self.say(desk, "letters", str(len(world)))
        for house in range(houses):
            rows = [f"{number} {state} {age} {part_text(purse)}" for number, state, age, purse in world.slots(house)]
            self.say(desk, f"slots {house}", ", ".join(rows) or "none")
        for hand in hands:
            self.say(desk, f"names {hand}", " ".join(world.names(hand)) or "none")
            for name in world.names(hand):
                self.say(desk, f"ahead {hand} {name}", str(notes_ahead(world, hand, name)))
        for ticket in range(1, 1 + len([entry for entry in world.log() if entry[0] == "ask"])):
            self.compare_answer(desk, world, ticket)
        self.assertEqual(view(world, houses, hands), seen)

    def compare_answer(self, desk, world, ticket):
        try:
            value = world.answer(ticket)
        except NotYet:
            self.assert_raises(NotYet, "ticket", ticket, desk.say, f"answer {ticket}")
            return
        if isinstance(value, bool):
            text = "yes" if value else "no"
        elif isinstance(value, tuple):
            text = " ".join(value) or "none"
        else:
            text = str(value)
        self.say(desk, f"answer {ticket}", text)


if __name__ == "__main__":
    unittest.main()

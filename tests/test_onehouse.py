"""Points 19 to 21, with the interface of trailparts/onehouse.py."""

import copy
import random
import unittest

from tests.cases import NO_DEEDS, NO_NAMES, NO_NUMBERS, WorldCase
from tests.compare import exact, random_world
from tests.samples import OTHER_VALUES
from trailparts.errors import NoLog
from trailparts.onehouse import as_if
from trailparts.worlds import World

HANDS = ["ann", "bob"]
MAKE_X = ("make", "ann", "x")
MAKE_Y = ("make", "ann", "y")


def ask(name, *deed, gift=None, target=None, hand="ann"):
    return ("ask", hand, name, deed, gift, target)


def at_once(ticket):
    return [("handled", ticket), ("answered", ticket)]


class AsIfCase(WorldCase):
    def check(self, log, answers, hands=("ann", "bob")):
        kept = copy.deepcopy(log)
        got = as_if(list(hands), log)
        self.assertIs(got.__class__, list)
        self.assert_exact(got, answers)
        self.assertEqual(exact(log), exact(kept))

    def no_log(self, log, place):
        kept = copy.deepcopy(log)
        self.assert_raises(NoLog, "place", place, as_if, list(HANDS), log)
        self.assertEqual(exact(log), exact(kept))


class AnswersTest(AsIfCase):
    def test_the_examples_of_the_document(self):
        log = [("make", "ann", "x"), ("ask", "ann", "x", ("add", 5), None, None), ("handled", 1), ("answered", 1)]
        self.check(log, [(1, 5)], ["ann"])
        self.assert_raises(NoLog, "place", 0, as_if, ["ann"], [("drop", "ann", "x")])

    def test_nothing(self):
        self.check([], [])
        self.check([MAKE_X, ("share", "ann", "x", "y"), ("drop", "ann", "x"), ("send", "ann", "y", "bob", "z"), ("given", 1)], [])

    def test_just_what_was_answered_in_the_order_in_which_it_was(self):
        log = [MAKE_X] + [ask("x", "add", number) for number in [1, 10, 100, 1000]]
        log += [("handled", 3), ("handled", 1), ("handled", 4), ("answered", 4), ("answered", 3)]
        self.check(log, [(4, 1101), (3, 100)])
        self.check(log + [("answered", 1)], [(4, 1101), (3, 100), (1, 101)])

    def test_values_of_all_deeds(self):
        log = [MAKE_X, MAKE_Y]
        asks = [
            (ask("x", "get"), 0), (ask("x", "add", -3), -3), (ask("x", "boxes"), ()),
            (ask("x", "take", "b", gift="y"), False), (ask("x", "take", "b", gift="x"), True),
            (ask("x", "take", "a", gift="y"), False), (ask("x", "boxes"), ("a", "b")),
            (ask("x", "clear", "c"), False), (ask("x", "give", "c", target="t"), False),
            (ask("x", "give", "a", target="t"), True), (ask("t", "add", 4), 4), (ask("y", "get"), 4),
            (ask("x", "clear", "a"), True), (ask("x", "make", target="n"), True), (ask("n", "add", 1), 1),
            (ask("x", "clone", target="c"), True), (ask("c", "get"), -3), (ask("c", "add", 1), -2), (ask("x", "get"), -3),
            (ask("c", "boxes"), ("b",)), (ask("c", "give", "b", target="d"), True), (ask("d", "get"), -3),
            (ask("c", "clear", "b"), True), (ask("x", "boxes"), ("b",)),
        ]
        answers = []
        for ticket, (entry, value) in enumerate(asks, 1):
            log += [entry] + at_once(ticket)
            answers.append((ticket, value))
        self.check(log, answers)

    def test_an_ask_is_for_the_object_that_the_variable_holds_when_it_is_asked(self):
        log = [MAKE_X, ask("x", "add", 1), MAKE_X, ask("x", "add", 10), ("drop", "ann", "x")]
        self.check(log + at_once(2) + at_once(1), [(2, 10), (1, 1)])

    def test_a_gift_of_an_ask_is_the_object_that_its_variable_holds_then(self):
        log = [MAKE_X, MAKE_Y, ask("y", "add", 7), ask("x", "take", "b", gift="y"), MAKE_Y, ask("x", "give", "b", target="t")]
        log += [("handled", 1), ("handled", 2), ("handled", 3), ("answered", 3), ask("t", "get"), ask("y", "get")]
        self.check(log + at_once(4) + at_once(5), [(3, True), (4, 7), (5, 0)])

    def test_the_yield_is_what_the_box_held_when_it_was_handled(self):
        log = [MAKE_X, MAKE_Y, ask("y", "add", 7), ask("x", "take", "b", gift="y"), ask("x", "give", "b", target="t")]
        log += [ask("x", "clear", "b"), ("handled", 1), ("handled", 2), ("handled", 3), ("handled", 4), ("answered", 4)]
        log += [("answered", 3), ask("t", "get")]
        self.check(log + at_once(5), [(4, True), (3, True), (5, 7)])

    def test_the_target_is_set_when_it_is_answered(self):
        log = [MAKE_X, ask("x", "make", target="t"), ("handled", 1)]
        self.no_log(log + [ask("t", "get")], 3)
        self.check(log + [("answered", 1), ask("t", "get")], [(1, True)])
        self.no_log(log + [("answered", 1), ask("t", "get", hand="bob")], 4)

    def test_no_yield_leaves_the_target(self):
        log = [MAKE_X, MAKE_Y, ask("y", "add", 2), ask("x", "give", "b", target="y"), ask("x", "give", "b", target="t")]
        for ticket in [1, 2, 3]:
            log += at_once(ticket)
        self.check(log + [ask("y", "get")] + at_once(4), [(1, 2), (2, False), (3, False), (4, 2)])
        self.no_log(log + [ask("t", "get")], 11)

    def test_a_gift_holds_the_object_that_the_variable_holds_when_it_is_sent(self):
        log = [MAKE_X, ask("x", "add", 5), ("send", "ann", "x", "bob", "z"), MAKE_X, ("given", 1), ("send", "ann", "x", "bob", "z")]
        log += at_once(1) + [ask("z", "get", hand="bob"), ("given", 2), ask("z", "get", hand="bob")]
        self.check(log + at_once(2) + at_once(3), [(1, 5), (2, 5), (3, 0)])

    def test_boxes_may_hold_one_another(self):
        log = [MAKE_X, MAKE_Y, ask("x", "take", "b", gift="y"), ask("y", "take", "c", gift="x"), ask("x", "take", "me", gift="x")]
        for ticket in [1, 2, 3]:
            log += at_once(ticket)
        log += [ask("x", "clone", target="k")] + at_once(4) + [ask("k", "give", "me", target="k")] + at_once(5)
        self.check(log + [ask("k", "add", 3), ask("x", "get")] + at_once(6) + at_once(7),
                   [(1, False), (2, False), (3, False), (4, True), (5, True), (6, 3), (7, 3)])

    def test_arguments_by_name(self):
        self.assertEqual(as_if(log=[], hands=["ann"]), [])

    def test_calls_share_nothing(self):
        log = [MAKE_X, ask("x", "add", 1)] + at_once(1)
        first = as_if(["ann"], log)
        first.append("spoiled")
        self.assertEqual(as_if(["ann"], log), [(1, 1)])


class NoLogTest(AsIfCase):
    start = [MAKE_X, ("make", "bob", "y"), ask("x", "add", 1), ask("x", "get"), ("send", "ann", "x", "bob", "z"),
             ("handled", 1), ("answered", 1), ("handled", 2)]

    def test_any_value_as_the_log(self):
        for thing in OTHER_VALUES + NO_NAMES:
            if not isinstance(thing, list):
                self.no_log(thing, 0)
        self.no_log(tuple(self.start), 0)

    def test_any_value_as_an_entry(self):
        words = ["make", "ask", "share", "drop", "send", "handled", "answered", "given"]
        values = OTHER_VALUES + NO_NAMES + [(word,) for word in words] + words
        for thing in values:
            self.no_log([thing], 0)
            self.no_log(self.start + [thing], len(self.start))
            self.no_log(self.start + [thing, None], len(self.start))

    def good(self):
        return [
            ("make", "ann", "q"), ask("x", "get"), ask("x", "take", "b", gift="x"), ask("x", "make", target="t"),
            ("share", "ann", "x", "w"), ("drop", "bob", "y"), ("send", "bob", "y", "ann", "w"), ("answered", 2), ("given", 1),
        ]

    def test_these_fit(self):
        for entry in self.good():
            as_if(list(HANDS), self.start + [entry])

    def test_another_number_of_items(self):
        for entry in self.good():
            for other in [entry + (None,), entry + (1,), entry[:-1], entry[1:], entry + entry, (entry,), list(entry), entry[:1]]:
                self.no_log(self.start + [other], len(self.start))

    def test_other_words(self):
        for entry in self.good():
            for word in ["", "maked", "Make", "move", "tidy", "look", "deliver", "handles", None, 0, True, ("make",), ["make"]]:
                self.no_log(self.start + [(word,) + entry[1:]], len(self.start))

    def replaced(self, entry, at, values):
        for value in values:
            self.no_log(self.start + [entry[:at] + (value,) + entry[at + 1:], None], len(self.start))

    def test_hands_that_are_none(self):
        for entry in self.good()[:7]:
            self.replaced(entry, 1, NO_NAMES + ["cat", "x"])
        self.replaced(("send", "bob", "y", "ann", "w"), 3, NO_NAMES + ["cat", "y"])

    def test_names_that_are_no_variables_of_the_hand(self):
        for entry in self.good()[1:7]:
            other = "y" if entry[1] == "ann" else "x"
            self.replaced(entry, 2, NO_NAMES + ["nope", "q", other])

    def test_new_names_that_are_none(self):
        self.replaced(("make", "ann", "q"), 2, NO_NAMES)
        self.replaced(("share", "ann", "x", "w"), 3, NO_NAMES)
        self.replaced(("send", "bob", "y", "ann", "w"), 4, NO_NAMES)
        self.replaced(ask("x", "make", target="t"), 5, NO_NAMES)

    def test_deeds_gifts_and_targets(self):
        self.replaced(ask("x", "get"), 3, NO_DEEDS + [("take", "b"), ("give", "b"), ("make",), ("clone",)])
        self.replaced(ask("x", "take", "b", gift="x"), 3, NO_DEEDS + [("get",), ("give", "b"), ("make",)])
        self.replaced(ask("x", "take", "b", gift="x"), 4, NO_NAMES + ["nope", "y"])
        self.replaced(ask("x", "take", "b", gift="x"), 5, ["t", "x", 0, False, ""])
        self.replaced(ask("x", "make", target="t"), 3, NO_DEEDS + [("get",), ("add", 1), ("take", "b")])
        self.replaced(ask("x", "make", target="t"), 4, ["x", "nope", 0, False, ""])
        self.replaced(ask("x", "get"), 4, ["x", "nope", 0, False, ""])
        self.replaced(ask("x", "get"), 5, ["x", "t", 0, False, ""])

    def test_tickets(self):
        self.replaced(("handled", 0), 1, NO_NUMBERS + [0, 1, 2, 3, "1", (1,)])
        self.replaced(("answered", 0), 1, NO_NUMBERS + [0, 1, 3, "2", (2,)])
        self.no_log([MAKE_X, ask("x", "get"), ("answered", 1)], 2)
        self.no_log([MAKE_X, ("handled", 1), ask("x", "get")], 1)
        self.no_log([MAKE_X, ask("x", "get"), ("handled", True)], 2)
        self.no_log([MAKE_X, ask("x", "get"), ("handled", 1), ("answered", True)], 3)
        self.no_log([MAKE_X, ask("x", "get"), ("handled", 1), ("handled", 1)], 3)
        self.no_log([MAKE_X, ask("x", "get"), ("handled", 1), ("answered", 1), ("answered", 1)], 4)
        self.no_log([MAKE_X, ask("x", "get"), ("handled", 1), ("answered", 1), ("handled", 1)], 4)

    def test_gifts(self):
        self.replaced(("given", 0), 1, NO_NUMBERS + [0, 2, 3, "1", (1,)])
        self.no_log([MAKE_X, ("send", "ann", "x", "bob", "y"), ("given", True)], 2)
        self.no_log([MAKE_X, ("send", "ann", "x", "bob", "y"), ("given", 1), ("given", 1)], 3)
        self.no_log([MAKE_X, ("given", 1), ("send", "ann", "x", "bob", "y")], 1)

    def test_what_is_a_variable_at_that_moment(self):
        self.no_log([MAKE_X, ("drop", "ann", "x"), ask("x", "get")], 2)
        self.no_log([MAKE_X, ("drop", "ann", "x"), ("drop", "ann", "x")], 2)
        self.no_log([MAKE_X, MAKE_Y, ("drop", "ann", "y"), ask("x", "take", "b", gift="y")], 3)
        self.no_log([MAKE_X, ("send", "ann", "x", "bob", "y"), ("drop", "bob", "y"), ("given", 1)], 2)
        self.check([MAKE_X, ("send", "ann", "x", "bob", "y"), ("given", 1), ("drop", "bob", "y")], [])
        self.check([MAKE_X, ("share", "ann", "x", "y"), ("drop", "ann", "x"), ("drop", "ann", "y")], [])
        self.no_log([("share", "ann", "x", "x")], 0)

    def test_the_first_that_does_not_fit(self):
        log = list(self.start)
        for place in range(len(log) + 1):
            self.no_log(log[:place] + ["wrong"] + log[place:] + [None, ("handled", 9)], place)

    def test_the_hands(self):
        self.assert_raises(NoLog, "place", 1, as_if, ["ann"], [("make", "ann", "x"), ("make", "bob", "x")])
        self.assertEqual(as_if(["a", "b", "c", "d", "e"], [("make", "e", "x"), ask("x", "get", hand="e")] + at_once(1)), [(1, 0)])


class WorldsTest(AsIfCase):
    def test_the_answers_of_a_world_at_every_moment(self):
        for seed in range(40):
            world, model = random_world(seed, 90)
            for step in range(60):
                if not len(world):
                    break
                world.deliver((seed * step) % len(world))
                came = [(entry[1], world.answer(entry[1])) for entry in world.log() if entry[0] == "answered"]
                self.assert_exact(as_if(HANDS, world.log()), came)

    def test_logs_of_worlds_with_one_item_replaced_removed_or_added(self):
        chance = random.Random(7)
        for seed in range(40):
            world, model = random_world(seed, 60)
            log = world.log()
            place = chance.randrange(len(log))
            spoiled = list(log)
            spoiled[place] = chance.choice(OTHER_VALUES)
            self.no_log(spoiled, place)
            spoiled = log[:place] + [log[place][:-1] + (None, None)] + log[place + 1:]
            self.no_log(spoiled, place)
            tickets = [at for at, entry in enumerate(log) if entry[0] in ("handled", "answered", "given")]
            for at in tickets[:3]:
                self.no_log(log + [log[at]], len(log))

    def test_parts_of_logs_of_worlds(self):
        for seed in range(10):
            world, model = random_world(seed, 60)
            log = world.log()
            for length in range(len(log)):
                answers = as_if(HANDS, log[:length])
                self.assert_exact(answers, as_if(HANDS, log)[:len(answers)])

    def test_the_world_with_the_handled_in_another_order(self):
        world = World(2, ["ann"])
        world.make("ann", "x", 0)
        world.ask("ann", "x", ("add", 1))
        world.ask("ann", "x", ("add", 10))
        world.deliver(1)
        world.rest()
        self.assert_exact(as_if(["ann"], world.log()), [(2, 10), (1, 11)])


if __name__ == "__main__":
    unittest.main()

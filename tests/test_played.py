"""Point 27: worlds that are played again from their histories."""

import random
import unittest

from tests.cases import NO_DEEDS, NO_NAMES, NO_NUMBERS, WorldCase
from tests.compare import Pair, do_event, exact, random_event, random_world, view
from tests.samples import OTHER_VALUES
from tests.test_world import NO_HANDS
from trailparts.errors import NoHand, NoHistory, NoHouse
from trailparts.histories import history_text, played, read_history
from trailparts.worlds import World

EVENT = ("look",)
MAKE = ("make", "ann", "x", 0)
GET = ("ask", "ann", "x", ("get",), None, None)
TAKE = ("ask", "ann", "x", ("take", "b"), "x", None)
# Two events of each kind that can be done after PREPARED.
PREPARED = [MAKE, ("make", "ann", "y", 1), TAKE, ("deliver", 0), ("deliver", 0), ("make", "bob", "z", 2)]
POSSIBLE = [
    ("make", "bob", "x", 2), ("make", "ann", "x", 0), GET, ("ask", "ann", "y", ("add", -5), None, None),
    ("ask", "ann", "x", ("boxes",), None, None), ("ask", "ann", "x", ("take", "c"), "y", None),
    ("ask", "ann", "x", ("clear", "b"), None, None), ("ask", "ann", "x", ("give", "b"), None, "u"),
    ("ask", "bob", "z", ("make",), None, "z"), ("ask", "bob", "z", ("clone",), None, "u"),
    ("share", "ann", "x", "y"), ("share", "bob", "z", "z"), ("drop", "ann", "x"), ("drop", "bob", "z"),
    ("send", "ann", "x", "bob", "x"), ("send", "bob", "z", "bob", "u"), ("move", 0, 0, 1), ("move", 2, 0, 0),
    ("tidy", 0, 0, "b"), ("look",),
]
WEIGHTS = {"make": 3, "ask": 12, "share": 2, "drop": 2, "send": 2, "move": 5, "tidy": 3, "look": 1, "deliver": 24}
# Values of any kind that are no events, wherever they stand.
NO_EVENTS = OTHER_VALUES + [
    "look", "deliver 0", ["look"], ["make", "ann", "x", 0], ["deliver", 0], {"look": 1}, ("look", None), ("look", 1), ("look", ()),
    ("looks",), ("Look",), ("look ",), ("",), (None,), (True,), (0,), (["look"],), (("look",),), ({},), ("rest",), ("letters",),
    ("world", 2, "ann"), ("trial",), ("handled", 1), ("answered", 1), ("given", 1), ("deliver",), ("deliver", 0, 0), ("make",),
    ("make", "ann"), ("make", "ann", "x"), ("make", "ann", "x", 0, 0), ("ask",), ("ask", "ann", "x", ("get",)),
    ("ask", "ann", "x", ("get",), None), ("ask", "ann", "x", ("get",), None, None, None), ("share", "ann", "x"),
    ("share", "ann", "x", "y", "z"), ("drop", "ann"), ("drop", "ann", "x", "x"), ("send", "ann", "x", "bob"),
    ("send", "ann", "x", "bob", "y", "z"), ("move", 0, 0), ("move", 0, 0, 1, 1), ("tidy", 0, 0), ("tidy", 0, 0, "b", "b"),
    ("answer", 1), ("names", "ann"), ("slots", 0), ("address", "ann", "x"), ("history",), ("log",), ("trial", "look"),
    ("__init__", 1, ["ann"]), ("state",), ("busy",), ([], "ann", "x", 0), ({}, 0), (None, 0), (("deliver",), 0),
]


class PlayedCase(WorldCase):
    def play(self, events):
        return played(3, ["ann", "bob"], events)

    def assert_none(self, place, events):
        """Check that these events are no history, and at which place."""
        self.assert_raises(NoHistory, "place", place, self.play, events)


class PlayedTest(PlayedCase):
    def test_no_events(self):
        world = played(2, ["ann"], [])
        self.assertIs(world.__class__, World)
        self.assertEqual(world, World(2, ["ann"]))
        self.assertEqual(view(world, 2, ["ann"]), view(World(2, ["ann"]), 2, ["ann"]))

    def test_each_event(self):
        for event in POSSIBLE:
            world = self.new_world()
            for earlier in PREPARED + [event]:
                do_event(world, earlier)
            again = self.play(PREPARED + [event])
            self.assert_exact(again.history(), PREPARED + [event])
            self.assertEqual(self.view(again), self.view(world))
            self.assertTrue(again == world)

    def test_each_place_of_a_delivery(self):
        events = PREPARED + [GET, ("send", "ann", "x", "bob", "u"), ("look",)]
        world = self.play(events)
        for place in range(len(world)):
            told = world.letters()[place]
            again = self.play(events + [("deliver", place)])
            self.assertNotIn(told, again.letters())
            self.assertTrue(again == world.trial(lambda world: (world.deliver(place), self.play(world.history()))[1]))
        self.assert_none(len(events), events + [("deliver", len(world))])

    def test_a_world_that_is_played_again_is_equal_and_goes_on_like_it(self):
        for seed in range(20):
            chance = random.Random(seed)
            pair = Pair(self, 3, ["ann", "bob"])
            with self.subTest(seed=seed):
                for step in range(80):
                    pair.do(random_event(chance, pair.model, WEIGHTS))
                again = self.play(pair.world.history())
                self.assertTrue(again == pair.world)
                self.assertEqual(self.view(again), self.view(pair.world))
                for step in range(60):
                    event = random_event(chance, pair.model, WEIGHTS)
                    self.assert_exact(do_event(again, event), pair.do(event))
                self.assertEqual(self.view(again), self.view(pair.world))
                again.rest()
                pair.world.rest()
                self.assertEqual(self.view(again), self.view(pair.world))

    def test_at_each_moment(self):
        for seed in range(4):
            world, model = random_world(seed, 60)
            events = world.history()
            for count in range(len(events) + 1):
                self.assertEqual(self.play(events[:count]).history(), events[:count])
            self.assertTrue(self.play(events) == world)

    def test_other_worlds(self):
        shapes = [(1, ["ann"]), (2, ["with", "into"]), (6, ["a", "b", "c", "d", "abcdef"])]
        for seed, (houses, hands) in enumerate(shapes):
            world, model = random_world(seed, 90, houses, hands)
            again = played(houses, hands, world.history())
            self.assertTrue(again == world)
            self.assertEqual(view(again, houses, hands), view(world, houses, hands))

    def test_what_rests_and_trials_leave_in_a_history(self):
        world, model = random_world(3, 50)
        world.trial(lambda world: (world.make("ann", "x", 0), world.rest()))
        world.rest(by=lambda letters: len(letters) // 2)
        world.trial(lambda world: world.trial(lambda world: (world.make("ann", "x", 0), world.look(), world.rest())))
        world.make("bob", "u", 1)
        again = self.play(world.history())
        self.assertTrue(again == world)
        self.assertEqual(self.view(again), self.view(world))
        self.assertEqual(self.counters(again), self.counters(world))

    def test_within_a_trial(self):
        world, model = random_world(4, 50)

        def on(world):
            world.make("ann", "x", 2)
            world.rest()
            return self.play(world.history()), self.view(world)

        again, seen = world.trial(on)
        self.assertEqual(self.view(again), seen)
        self.assertFalse(again == world)

    def test_a_rest_that_an_error_ended(self):
        def by(letters):
            if len(letters) == 2:
                raise ZeroDivisionError
            return -1

        world = self.boxed()
        for step in range(3):
            world.ask("ann", "x", ("get",))
            world.share("ann", "x", "u")
            world.drop("ann", "u")
        self.assertRaises(ZeroDivisionError, world.rest, by=by)
        again = self.play(world.history())
        self.assertTrue(again == world)
        self.assertEqual(self.view(again), self.view(world))

    def test_the_worlds_share_nothing(self):
        world = self.boxed()
        again = self.play(world.history())
        before = self.view(world)
        again.drop("ann", "x")
        again.rest()
        again.look()
        self.assertEqual(self.view(world), before)

    def test_the_lists_are_neither_changed_nor_kept(self):
        events = list(PREPARED)
        hands = ["ann", "bob"]
        world = played(3, hands, events)
        self.assert_exact(events, PREPARED)
        self.assertEqual(hands, ["ann", "bob"])
        before = self.view(world)
        events.clear()
        hands.clear()
        self.assertEqual(self.view(world), before)
        world.make("bob", "x", 1)
        self.assertEqual(events, [])

    def test_arguments_by_name(self):
        self.assertEqual(played(houses=3, hands=["ann"], events=[MAKE]).history(), [MAKE])


class NoHistoryTest(PlayedCase):
    def test_houses_and_hands_come_first(self):
        for events in [[], [EVENT], None, [None], (), "look"]:
            for houses in NO_NUMBERS + [0, 7]:
                self.assert_raises(NoHouse, "house", houses, played, houses, ["ann"], events)
                self.assert_raises(NoHouse, "house", houses, played, houses, None, events)
            for hands in NO_HANDS:
                self.assert_raises(NoHand, "hand", hands, played, 2, hands, events)

    def test_what_is_no_list(self):
        for events in OTHER_VALUES + [EVENT, (EVENT,), ("look",), {0: EVENT}, {EVENT: 0}, "look", 0, True]:
            if not isinstance(events, list):
                self.assert_none(0, events)

    def test_lists_of_other_values(self):
        for events in OTHER_VALUES:
            if isinstance(events, list) and events:
                self.assert_none(0, events)

    def test_values_that_are_no_events(self):
        for event in NO_EVENTS:
            for before in [[], [EVENT], PREPARED]:
                for after in [[], [EVENT], [None]]:
                    self.assert_none(len(before), before + [event] + after)

    def test_the_first_one_counts(self):
        events = list(PREPARED)
        for place in reversed(range(len(events))):
            events[place] = None
            self.assert_none(place, events)

    def test_each_item_of_each_event_wrong(self):
        """Replace, remove and add items. What is left may be an event by chance; then it is one for World, too."""
        others = NO_NAMES + NO_NUMBERS + NO_DEEDS + [("get",), "x", "ann", "q", 3, 7]
        for event in POSSIBLE + [("deliver", 0)]:
            events = PREPARED + [GET]
            for at in range(len(event)):
                self.assert_none(len(events), events + [event[:at] + event[at + 1:]])
                for other in others:
                    self.assert_as_world_does(events, event[:at] + (other,) + event[at + 1:])
                    self.assert_none(len(events), events + [event[:at] + (other,) + event[at:]])
            self.assert_none(len(events), events + [list(event)])

    def assert_as_world_does(self, events, event):
        """Check that an event can be played just if a world does it."""
        world = self.play(events)
        words = ["make", "ask", "share", "drop", "send", "move", "tidy", "look", "deliver"]
        if isinstance(event[0], str) and event[0] in words:
            try:
                do_event(world, event)
            except (LookupError, ValueError):
                pass
        done = len(world.history()) > len(events)
        if done:
            self.assertTrue(self.play(events + [event]) == world)
        else:
            self.assert_none(len(events), events + [event])

    def test_events_that_raise_errors(self):
        wrong = [
            ("make", "cat", "y", 0), ("make", "ann", "Y", 0), ("make", "ann", "y", 3), ("make", "ann", "y", -1),
            ("make", "ann", "y", True), ("ask", "cat", "x", ("get",), None, None), ("ask", "ann", "u", ("get",), None, None),
            ("ask", "ann", "x", ("got",), None, None), ("ask", "ann", "x", ["get"], None, None),
            ("ask", "ann", "x", ("add", True), None, None), ("ask", "ann", "x", ("get",), "x", None),
            ("ask", "ann", "x", ("get",), None, "y"), ("ask", "ann", "x", ("take", "b"), None, None),
            ("ask", "ann", "x", ("take", "b"), "u", None), ("ask", "ann", "x", ("take", "b"), "x", "y"),
            ("ask", "ann", "x", ("make",), None, None), ("ask", "ann", "x", ("make",), None, "Y"),
            ("share", "cat", "x", "y"), ("share", "ann", "u", "y"), ("share", "ann", "x", "Y"), ("drop", "cat", "x"),
            ("drop", "ann", "u"), ("drop", "bob", "x"), ("send", "cat", "x", "bob", "y"), ("send", "ann", "x", "cat", "y"),
            ("send", "ann", "u", "bob", "y"), ("send", "ann", "x", "bob", "Y"), ("move", 3, 0, 1), ("move", 0, 1, 1),
            ("move", 0, 0, 3), ("move", 0, 0, 0), ("move", False, 0, 1), ("move", 0, False, 1), ("move", 0, 0, True),
            ("tidy", 3, 0, "b"), ("tidy", 0, 1, "b"), ("tidy", 0, 0, "c"), ("tidy", 1, 0, "b"), ("deliver", 0),
            ("deliver", -1), ("deliver", False), ("deliver", "0"), ("deliver", None),
        ]
        for event in wrong:
            self.assert_none(len(PREPARED), PREPARED + [event])
            self.assert_none(len(PREPARED), PREPARED + [event, None])
            self.assert_none(len(PREPARED) + 1, PREPARED + [("make", "bob", "u", 2), event])

    def test_an_event_that_is_too_early(self):
        self.assert_none(0, [GET, MAKE])
        self.assert_none(1, [MAKE, ("deliver", 0), GET])
        self.assert_none(2, [MAKE, GET, ("deliver", 1)])
        self.assert_none(4, [MAKE, GET, ("deliver", 0), ("deliver", 0), ("deliver", 0)])

    def test_a_history_with_one_event_replaced_removed_or_added(self):
        chance = random.Random(9)
        for seed in range(6):
            world, model = random_world(seed, 60)
            events = world.history()
            for step in range(60):
                at = chance.randrange(len(events))
                other = chance.choice(events + NO_EVENTS + POSSIBLE)
                for spoiled in [events[:at] + events[at + 1:], events[:at] + [other] + events[at + 1:],
                                events[:at] + [other] + events[at:]]:
                    self.assertEqual(self.place_of(spoiled), self.first_refused(spoiled))

    def place_of(self, events):
        """Return the place at which played finds no history, or None."""
        try:
            self.play(events)
        except NoHistory as error:
            return error.place
        return None

    def first_refused(self, events):
        """Return the place of the first event that a world does not do, or None."""
        world = self.new_world()
        for place, event in enumerate(events):
            if exact(event) in [exact(other) for other in NO_EVENTS]:
                return place
            try:
                do_event(world, event)
            except (LookupError, ValueError):
                return place
        return None

    def test_a_history_as_text_and_back(self):
        for seed in range(10):
            world, model = random_world(seed, 100)
            again = self.play(read_history(history_text(world.history())))
            self.assertTrue(again == world)
            self.assertEqual(self.view(again), self.view(world))


if __name__ == "__main__":
    unittest.main()

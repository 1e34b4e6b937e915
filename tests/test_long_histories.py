"""Point 3: what holds in every world, at every moment of long random histories."""

import random
import unittest

from tests.compare import Pair, random_event
from trailparts.trails import notes_ahead, notes_passed

EVEN = {"make": 3, "ask": 12, "share": 2, "drop": 2, "send": 2, "move": 4, "tidy": 3, "look": 1, "deliver": 30}
SLOW = {"make": 3, "ask": 12, "share": 2, "drop": 1, "send": 2, "move": 8, "tidy": 4, "look": 1, "deliver": 12}
MOVING = {"make": 2, "ask": 8, "share": 1, "drop": 1, "send": 1, "move": 12, "tidy": 6, "look": 0, "deliver": 30}
LOOKING = {"make": 5, "ask": 12, "share": 1, "drop": 6, "send": 1, "move": 2, "tidy": 2, "look": 3, "deliver": 50}
DROPPING = {"make": 6, "ask": 9, "share": 3, "drop": 12, "send": 2, "move": 4, "tidy": 2, "look": 1, "deliver": 40}


class LongHistoriesTest(unittest.TestCase):
    def run_history(self, seed, weights, events, houses, hands):
        chance = random.Random(seed)
        pair = Pair(self, houses, hands)
        for step in range(events):
            pair.do(random_event(chance, pair.model, weights))
            pair.check()
        return chance, pair

    def run_many(self, weights, seeds, events=130):
        shapes = [(3, ["ann", "bob"]), (1, ["ann"]), (2, ["bob", "ann"]), (6, ["a", "b", "c", "d", "e"]), (3, ["ann"])]
        for seed in seeds:
            houses, hands = shapes[seed % len(shapes)]
            with self.subTest(seed=seed):
                self.run_history(seed, weights, events, houses, hands)

    def test_even(self):
        self.run_many(EVEN, range(0, 8))

    def test_slow_letters(self):
        self.run_many(SLOW, range(100, 108))

    def test_many_moves(self):
        self.run_many(MOVING, range(200, 208))

    def test_many_looks(self):
        self.run_many(LOOKING, range(300, 310))

    def test_much_is_dropped(self):
        self.run_many(DROPPING, range(400, 408))

    def test_when_all_were_asked_and_tidied_no_note_stands_and_a_look_leaves_what_is_reached(self):
        for seed, weights in enumerate([EVEN, SLOW, MOVING, LOOKING, DROPPING] * 5):
            with self.subTest(seed=seed):
                chance, pair = self.run_history(1000 + seed, weights, 60, 3, ["ann", "bob"])
                self.settle(chance, pair)

    def settle(self, chance, pair):
        model = pair.model
        pair.drain(chance)
        for hand in pair.hands:
            for name in model.names(hand):
                pair.do(("ask", hand, name, ("get",), None, None))
        boxes = [(slot.house, slot.number, box) for house in model.houses for slot in house for box in slot.being.boxes
                 if slot.state() == "object"]
        for place in boxes:
            pair.do(("tidy",) + place)
        pair.drain(chance)
        pair.check()
        rows = [row for house in range(pair.houses) for row in pair.world.slots(house)]
        self.assertEqual({row[1] for row in rows} - {"object"}, set())
        pair.do(("look",))
        pair.drain(chance)
        pair.check()
        left = [(house, row[0]) for house in range(pair.houses) for row in pair.world.slots(house)]
        self.assertEqual(left, model.reached())

    def test_a_look_frees_what_is_not_reached_also_where_notes_stand(self):
        for seed, weights in enumerate([EVEN, MOVING, LOOKING, DROPPING] * 5):
            with self.subTest(seed=seed):
                chance, pair = self.run_history(2000 + seed, weights, 70, 3, ["ann", "bob"])
                pair.drain(chance)
                pair.do(("look",))
                pair.drain(chance)
                left = [(house, row[0]) for house in range(pair.houses) for row in pair.world.slots(house)]
                self.assertEqual(left, pair.model.reached())

    def test_the_notes_ahead_are_those_that_an_ask_passes(self):
        for seed in range(12):
            chance, pair = self.run_history(3000 + seed, MOVING, 80, 4, ["ann", "bob"])
            for hand in pair.hands:
                for name in pair.world.names(hand):
                    ahead = notes_ahead(pair.world, hand, name)
                    self.assertEqual(pair.world.trial(lambda world: passed_by_an_ask(world, hand, name)), ahead)

    def test_at_rest_the_visible_weights_come_to_the_whole(self):
        for seed in range(12):
            chance, pair = self.run_history(4000 + seed, EVEN, 60, 3, ["ann", "bob"])
            pair.world.trial(lambda world: self.check_weights(world, pair.houses, pair.hands))

    def check_weights(self, world, houses, hands):
        world.rest()
        held = [world.address(hand, name) for hand in hands for name in world.names(hand)]
        totals = {}
        for house in range(houses):
            for number, state, age, purse in world.slots(house):
                inside = world.inside(house, number)
                self.assertIn(state, ("object", "note"))
                held.extend(inside[2].values() if state == "object" else [inside[1]])
                totals[(house, number, age)] = [purse]
        for house, number, age, part in held:
            totals[(house, number, age)].append(part)
        for parts in totals.values():
            bottom = max(part[1] for part in parts)
            self.assertEqual(sum(part[0] * (bottom // part[1]) for part in parts), bottom)


def passed_by_an_ask(world, hand, name):
    """Ask through a variable, deliver all, and return how many notes the ask has passed."""
    ticket = world.ask(hand, name, ("get",))
    world.rest()
    return notes_passed(world, ticket)


if __name__ == "__main__":
    unittest.main()

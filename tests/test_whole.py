"""Point 3: what the whole program promises, on drawn histories, through the interface alone but for what to do next."""

import random
import unittest

from tests.compare import do_event, exact, random_event, value_of, view
from tests.model import Model
from trailparts.desk import Desk
from trailparts.errors import NotYet
from trailparts.histories import history_text, played, read_history
from trailparts.onehouse import as_if
from trailparts.papers import holds, paper_of
from trailparts.trails import notes_ahead, notes_passed, trail_from
from trailparts.weights import holders
from trailparts.worlds import World

EVEN = {"make": 3, "ask": 14, "share": 2, "drop": 2, "send": 2, "move": 5, "tidy": 3, "look": 1, "deliver": 30}
MOVING = {"make": 2, "ask": 8, "share": 1, "drop": 1, "send": 1, "move": 12, "tidy": 5, "look": 0, "deliver": 24}
DROPPING = {"make": 6, "ask": 14, "share": 1, "drop": 8, "send": 2, "move": 4, "tidy": 2, "look": 1, "deliver": 50}
CROWDED = {"make": 5, "ask": 16, "share": 2, "drop": 5, "send": 3, "move": 8, "tidy": 4, "look": 3, "deliver": 14}
SHAPES = [(3, ["ann", "bob"]), (1, ["ann"]), (2, ["bob", "ann"]), (6, ["a", "b", "c", "d", "e"])]


class Stop(Exception):
    pass


def drawn_event(chance, world, hands):
    """Return an event that may be impossible."""
    hand, name, other = chance.choice(hands), chance.choice("xyz"), chance.choice("xyz")
    house, number = chance.randrange(3), chance.randrange(3)
    deeds = [(("get",), None, None), (("add", 3), None, None), (("take", "b"), other, None), (("give", "b"), None, other),
             (("clone",), None, other), (("clear", "b"), None, None)]
    return chance.choice([
        ("make", hand, name, house), ("ask", hand, name) + chance.choice(deeds), ("ask", hand, name) + chance.choice(deeds),
        ("share", hand, name, other), ("drop", hand, name), ("send", hand, name, chance.choice(hands), other),
        ("move", house, number, chance.randrange(3)), ("tidy", house, number, "b"), ("look",),
        ("deliver", chance.randrange(3)), ("deliver", chance.randrange(1 + len(world))),
    ])


class WholeTest(unittest.TestCase):
    def drawn(self, count, events):
        """Yield worlds after drawn histories, each with its hands, something to draw with, and the model."""
        for seed in range(count):
            chance = random.Random(7000 + seed)
            houses, hands = SHAPES[seed % len(SHAPES)]
            world, model = World(houses, hands), Model(houses, hands)
            for step in range(events):
                event = random_event(chance, model, [EVEN, MOVING, DROPPING, CROWDED, DROPPING][seed % 5])
                do_event(world, event)
                do_event(model, event)
            yield world, hands, chance, model

    def occupied(self, world):
        houses = int(repr(world)[len("World("):].split(",")[0])
        return [(house, row[0]) for house in range(houses) for row in world.slots(house)]

    def variables(self, world, hands):
        return [(hand, name) for hand in hands for name in world.names(hand)]

    def reached(self, world, hands):
        """Return the slots that variables reach, as the interface shows them."""
        found = [world.address(hand, name)[:2] for hand, name in self.variables(world, hands)]
        for place in found:
            told = world.inside(*place)
            held = {"object": lambda: list(told[2].values()), "note": lambda: [told[1]], "departing": list}[told[0]]()
            found.extend({address[:2] for address in held} - set(found))
        return sorted(set(found))

    def test_deliveries_end(self):
        most = 0
        for world, hands, chance, model in self.drawn(40, 120):
            orders = [None, lambda letters: -1, lambda letters: chance.randrange(len(letters)), lambda letters: 7919]
            for by in orders:
                most = max(most, world.trial(lambda world: world.rest(by=by)))
                self.assertEqual(world.trial(lambda world: (world.rest(by=by), len(world))[1]), 0)
        self.assertLess(most, 2000)

    def test_then_all_asks_are_answered_as_in_the_one_house(self):
        for world, hands, chance, model in self.drawn(40, 150):
            for step in range(2):
                log = world.log()
                asked = [entry for entry in log if entry[0] == "ask"]
                answers = as_if(hands, log)
                answered = [entry[1] for entry in log if entry[0] == "answered"]
                self.assertEqual([ticket for ticket, value in answers], answered)
                told = [(ticket, world.answer(ticket)) for ticket in answered]
                self.assertEqual(exact(told), exact(answers))
                for ticket in set(range(1, 1 + len(asked))) - set(answered):
                    self.assertRaises(NotYet, world.answer, ticket)
                world.rest(by=lambda letters: chance.randrange(1000))
            self.assertEqual(sorted(answered), list(range(1, 1 + len(asked))))
            handled = [entry[1] for entry in log if entry[0] == "handled"]
            self.assertEqual(sorted(handled), sorted(answered))

    def test_an_ask_passes_as_many_notes_as_ages_lie_between(self):
        for world, hands, chance, model in self.drawn(20, 100):
            world.rest()
            for hand, name in self.variables(world, hands):
                address = world.address(hand, name)
                ahead = notes_ahead(world, hand, name)
                last = trail_from(world, *address[:2])[-1]
                age = [row[2] for row in world.slots(last[0]) if row[0] == last[1]][0]
                self.assertEqual(ahead, age - address[2])
                ticket = world.ask(hand, name, ("get",))
                world.rest()
                self.assertEqual(notes_passed(world, ticket), ahead)

    def test_after_asks_and_tidying_no_note_stands(self):
        for world, hands, chance, model in self.drawn(30, 100):
            world.rest()
            for hand, name in self.variables(world, hands):
                world.ask(hand, name, ("get",))
            for house, number in self.occupied(world):
                told = world.inside(house, number)
                for box in told[2] if told[0] == "object" else []:
                    world.tidy(house, number, box)
            world.rest(by=lambda letters: chance.randrange(1000))
            states = [row[1] for house in {place[0] for place in self.occupied(world)} for row in world.slots(house)]
            self.assertEqual(set(states) - {"object"}, set())

    def test_a_look_at_rest_frees_what_papers_told(self):
        freed = 0
        for world, hands, chance, model in self.drawn(60, 130):
            world.rest(by=lambda letters: chance.randrange(1000))
            papers = {place: paper_of(world, *place) for place in self.occupied(world)}
            stay = [place for place, paper in papers.items() if paper[0] == "reached"]
            freed += len(papers) - len(stay)
            self.assertEqual(stay, self.reached(world, hands))
            self.assertTrue(all(papers[place][1][0] == "variable" for place in stay))
            world.look()
            world.rest(by=lambda letters: chance.randrange(1000))
            self.assertEqual(self.occupied(world), stay)
            for place in stay:
                self.assertEqual(paper_of(world, *place)[0], "reached")
        self.assertGreater(freed, 50)

    def test_the_text_of_a_world_read_and_played_makes_an_equal_one(self):
        for world, hands, chance, model in self.drawn(30, 150):
            houses = int(repr(world)[len("World("):].split(",")[0])
            again = played(houses, hands, read_history(str(world)))
            self.assertTrue(again == world)
            self.assertEqual(view(again, houses, hands), view(world, houses, hands))
            self.assertEqual(history_text(again.history()), str(world))
            for other in [world, again]:
                other.rest()
                other.look()
                other.rest(by=lambda letters: 31)
            self.assertTrue(again == world)
            self.assertEqual(view(again, houses, hands), view(world, houses, hands))
            last = self.occupied(world)
            self.assertEqual([holders(again, *place) for place in last], [holders(world, *place) for place in last])

    def test_a_desk_to_which_the_text_is_said_goes_the_same_way(self):
        for world, hands, chance, model in self.drawn(20, 150):
            houses = int(repr(world)[len("World("):].split(",")[0])
            desk = Desk()
            desk.say(f"world {houses} " + " ".join(hands))
            for row in str(world).split("\n"):
                desk.say(row)
            self.assertEqual(desk.say("letters"), str(len(world)))
            self.assertEqual(desk.say("rest"), str(world.rest()))
            for ticket in range(1, 1 + len([entry for entry in world.log() if entry[0] == "ask"])):
                value = value_of(world, ticket)
                if not isinstance(value, (bool, tuple)):
                    self.assertEqual(desk.say(f"answer {ticket}"), str(value))
            for house in range(houses):
                told = desk.say(f"slots {house}")
                self.assertEqual(0 if told == "none" else len(told.split(", ")), len(world.slots(house)))

    def test_trials_within_trials_leave_nothing(self):
        for seed in range(12):
            chance = random.Random(8000 + seed)
            world = World(3, ["ann", "bob"])
            self.steps = 0
            self.wander(world, chance, 0)
            while self.steps < 150:
                self.wander(world, chance, 0)

    def wander(self, world, chance, depth):
        """Do what may come: events, rests, trials, each of which may end in an error."""
        hands = ["ann", "bob"]
        for step in range(chance.randrange(6, 14)):
            self.steps += 1
            what = chance.random()
            try:
                if what < 0.06:
                    world.rest(by=lambda letters: self.choose(letters, chance))
                elif what < 0.2 and depth < 4:
                    self.check_trial(world, chance, depth)
                else:
                    do_event(world, drawn_event(chance, world, hands))
            except (LookupError, Stop):
                pass
            self.assertTrue(played(3, hands, world.history()) == world)
        if depth > 0 and chance.random() < 0.4:
            raise Stop

    def choose(self, letters, chance):
        if chance.random() < 0.1:
            raise Stop
        return chance.randrange(1000)

    def check_trial(self, world, chance, depth):
        """Wander in a trial, and compare the world afterwards with what it was."""
        hands = ["ann", "bob"]
        before = (view(world, 3, hands), [holders(world, *place) for place in self.occupied(world)])
        twin = played(3, hands, world.history())
        try:
            world.trial(lambda world: self.wander(world, chance, depth + 1))
        finally:
            self.assertEqual((view(world, 3, hands), [holders(world, *place) for place in self.occupied(world)]), before)
            self.assertTrue(world == twin)
            for event in [("make", "ann", "x", 0), ("ask", "ann", "x", ("get",), None, None), ("look",)]:
                self.assertEqual(do_event(world, event), do_event(twin, event))
            self.assertEqual(view(world, 3, hands), view(twin, 3, hands))

    def test_six_hundred_events(self):
        chance = random.Random(600)
        world, model = World(6, ["ann", "bob", "cat"]), Model(6, ["ann", "bob", "cat"])
        for step in range(600):
            event = random_event(chance, model, EVEN)
            do_event(world, event)
            do_event(model, event)
        again = played(6, ["ann", "bob", "cat"], read_history(str(world)))
        self.assertTrue(again == world)
        self.assertEqual(exact(as_if(["ann", "bob", "cat"], world.log())), exact(model.order))
        for place in self.occupied(world):
            self.assertEqual(holders(world, *place), model.holders(*place))
            self.assertIs(holds(world, *place, paper_of(world, *place)), True)

    def test_a_slot_is_freed_with_its_last_part_and_not_earlier(self):
        """A departing slot is freed when its reply comes, if all its parts are back; no other slot has a full purse."""
        for world, hands, chance, model in self.drawn(30, 60):
            for step in range(120):
                event = random_event(chance, model, CROWDED if step < 60 else {"deliver": 1, "make": 0.01})
                do_event(world, event)
                do_event(model, event)
                for house, number in self.occupied(world):
                    row = [row for row in world.slots(house) if row[0] == number][0]
                    held = holders(world, house, number)
                    self.assertEqual(row[3] == (1, 1), held == [])
                    if held == []:
                        self.assertEqual(row[1], "departing")
                        self.assertTrue({("object", house, number), ("reply", house, number)}
                                        & {letter[:3] for letter in world.letters()})


if __name__ == "__main__":
    unittest.main()

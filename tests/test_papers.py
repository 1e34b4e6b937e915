"""Point 26: papers of slots, and which of them a looker accepts."""

import itertools
import random
import unittest

from tests.cases import NO_NAMES, NO_NUMBERS, WorldCase
from tests.compare import Pair, exact, random_event
from trailparts.errors import NoHouse, NoSlot
from trailparts.papers import holds, paper_of
from trailparts.worlds import World

LETTER = ("letter",)
X = ("variable", "ann", "x")
Y = ("variable", "ann", "y")
DYING = {"make": 4, "ask": 12, "share": 1, "drop": 5, "send": 1, "move": 4, "tidy": 1, "look": 0, "deliver": 40}
BUSY = {"make": 4, "ask": 14, "share": 2, "drop": 4, "send": 3, "move": 7, "tidy": 3, "look": 1, "deliver": 18}
# Values of any kind that are no papers at all.
NO_PAPERS = [
    None, True, False, 0, 1, -1, 10 ** 39, "", "reached", "dead", "letter", "\n", [], {}, (), [[]], ((),), ({},), ([],),
    ("reached",), ("dead",), ("reached", LETTER), ("letter", [(0, 0)]), ("dead", [(0, 0)], []), ("dead", LETTER, [(0, 0)]),
    ("reached", [(0, 0)]), ("reached", X, [(0, 0)], None), (None, X, [(0, 0)]), (True, [(0, 0)]), ({}, X, [(0, 0)]),
    (["reached"], X, [(0, 0)]), ("Reached", X, [(0, 0)]), ("reached ", X, [(0, 0)]), ("", X, [(0, 0)]), ("", [(0, 0)]),
    {"reached": X}, {"dead": [(0, 0)]}, {0: "dead", 1: [(0, 0)]}, {"reached": 0, "letter": 1, "dead": 2}, [[[[[[[[0]]]]]]]],
]
NO_LISTS = [
    None, True, False, 0, 1, "", "00", (), ((0, 0),), {}, {0: 0}, {(0, 0): True}, [()], [[]], [[0, 0]], [(0,)], [(0, 0, 0)],
    [(0, 0), None], [None], [0, 0], ["00"], [{}], [{0: 0}], [(False, 0)], [(0, False)], [(False, False)], [(None, 0)],
    [(0, None)], [("0", "0")], [(0, "0")], [((0,), 0)], [(0, [0])], [([], {})], [((0, 0),)], [(0, -1)], [(-1, 0)],
    [(-3, 0)], [(0, 9)], [(9, 0)], [(3, 0)], [(10 ** 39, 0)], [(0, 10 ** 39)], [[(0, 0)]], [(0, 0), (0, 0)], [],
]
NO_ROOTS = [
    None, True, False, 0, 1, "", "letter", "variable", [], {}, (), [LETTER], ["letter"], ["variable", "ann", "x"], (LETTER,),
    ("letter", "ann"), ("letter", "ann", "x"), ("letter", None), ("Letter",), (None,), (True,), (["letter"],), ("variable",),
    ("variable", "ann"), ("variable", "x"), ("variable", "ann", "x", "x"), ("variable", "x", "ann"), ("Variable", "ann", "x"),
    ("variable", "ann", "y"), ("variable", "bob", "x"), ("variable", "cid", "x"), ("variable", "ann", "X"),
    ("variable", ["ann"], "x"), ("variable", "ann", ["x"]), ("variable", {}, {}), ("variable", ("ann", "x")), (X,),
    ("note", 0, 0), ("box", 0, 0, "b"), ("box", 0, 0), ("variable", 0, 0), (0, 0), ("hand", "ann", "x"), {"letter": 1},
    ("variable", "ann", None), ("variable", None, "x"), ("variable", True, "x"),
]


class PaperCase(WorldCase):
    def assert_paper(self, world, house, number, paper):
        """Check what paper_of returns, and that it is accepted."""
        got = paper_of(world, house, number)
        self.assert_exact(got, paper)
        self.assertIs(holds(world, house, number, got), True)

    def accept(self, world, house, number, *papers):
        for paper in papers:
            self.assertIs(holds(world, house, number, paper), True, paper)

    def reject(self, world, house, number, *papers):
        for paper in papers:
            self.assertIs(holds(world, house, number, paper), False, paper)

    def ask(self, world, hand, name, deed, **more):
        """Ask, and deliver all."""
        ticket = world.ask(hand, name, deed, **more)
        world.rest()
        return ticket

    def ring(self, count=2):
        """Return a world with objects at (0, 0), (1, 0) .., each of which holds the next one, the last one the first."""
        world = World(6, ["ann", "bob"])
        names = ["xyzuvw"[at] for at in range(count)]
        for house, name in enumerate(names):
            world.make("ann", name, house)
        for name, held in zip(names, names[1:] + names[:1]):
            self.ask(world, "ann", name, ("take", "b"), gift=held)
        return world

    def dropped(self, world):
        """Drop all variables of ann, and deliver all."""
        for name in world.names("ann"):
            world.drop("ann", name)
        world.rest()
        return world


class ReachedTest(PaperCase):
    def test_a_variable(self):
        world = self.new_world()
        world.make("ann", "x", 0)
        self.assert_paper(world, 0, 0, ("reached", X, [(0, 0)]))
        self.reject(world, 0, 0, ("reached", Y, [(0, 0)]), ("reached", LETTER, [(0, 0)]), ("dead", [(0, 0)]))
        self.reject(world, 0, 0, ("reached", ("variable", "bob", "x"), [(0, 0)]))

    def test_each_variable_is_a_root(self):
        world = self.new_world()
        world.make("ann", "x", 1)
        world.share("ann", "x", "y")
        world.send("ann", "x", "bob", "x")
        world.rest()
        roots = [X, Y, ("variable", "bob", "x")]
        self.accept(world, 1, 0, *[("reached", root, [(1, 0)]) for root in roots])
        self.reject(world, 1, 0, ("reached", ("variable", "bob", "y"), [(1, 0)]))
        world.drop("ann", "y")
        self.accept(world, 1, 0, ("reached", X, [(1, 0)]), ("reached", LETTER, [(1, 0)]))
        self.reject(world, 1, 0, ("reached", Y, [(1, 0)]))

    def test_a_box(self):
        world = self.boxed()
        world.drop("ann", "y")
        world.rest()
        self.assert_paper(world, 1, 0, ("reached", X, [(0, 0), (1, 0)]))
        self.reject(world, 1, 0, ("reached", X, [(1, 0)]), ("reached", X, [(0, 0)]), ("reached", X, [(1, 0), (0, 0)]))
        self.reject(world, 0, 0, ("reached", X, [(0, 0), (1, 0)]))
        self.reject(world, 1, 0, ("reached", Y, [(1, 0)]), ("reached", Y, [(0, 0), (1, 0)]), ("dead", [(1, 0)]))
        self.reject(world, 1, 0, ("dead", [(0, 0), (1, 0)]))

    def test_a_way_and_a_longer_one(self):
        world = self.ring(4)
        for path in [[(3, 0)], [(0, 0), (1, 0), (2, 0), (3, 0)]]:
            self.accept(world, 3, 0, ("reached", ("variable", "ann", "xu"[len(path) == 1]), path))
        self.reject(world, 3, 0, ("reached", X, [(0, 0), (1, 0), (3, 0)]), ("reached", X, [(0, 0), (2, 0), (3, 0)]))
        self.reject(world, 3, 0, ("reached", X, [(1, 0), (2, 0), (3, 0)]), ("reached", X, [(0, 0), (1, 0), (2, 0)]))
        self.reject(world, 3, 0, ("reached", X, [(0, 0), (2, 0), (1, 0), (3, 0)]))

    def test_a_note_on_the_way(self):
        world = self.new_world()
        world.make("ann", "x", 0)
        world.move(0, 0, 2)
        world.rest()
        self.assert_paper(world, 2, 0, ("reached", X, [(0, 0), (2, 0)]))
        self.assert_paper(world, 0, 0, ("reached", X, [(0, 0)]))
        self.reject(world, 2, 0, ("reached", X, [(2, 0)]), ("reached", LETTER, [(2, 0)]))

    def test_no_slot_twice(self):
        world = self.ring(2)
        self.accept(world, 0, 0, ("reached", X, [(0, 0)]), ("reached", Y, [(1, 0), (0, 0)]))
        self.reject(world, 0, 0, ("reached", X, [(0, 0), (1, 0), (0, 0)]))
        self.reject(world, 0, 0, ("reached", Y, [(1, 0), (0, 0), (1, 0), (0, 0)]))
        world = self.ring(1)
        self.reject(world, 0, 0, ("reached", X, [(0, 0), (0, 0)]))

    def test_letters_of_each_kind_are_roots(self):
        world = self.boxed()
        world.drop("ann", "y")
        world.rest()
        self.reject(world, 1, 0, ("reached", LETTER, [(1, 0)]))
        world.ask("ann", "x", ("give", "b"), target="z")
        self.accept(world, 0, 0, ("reached", LETTER, [(0, 0)]), ("reached", X, [(0, 0)]))
        self.accept(world, 1, 0, ("reached", LETTER, [(0, 0), (1, 0)]))
        self.reject(world, 1, 0, ("reached", LETTER, [(1, 0)]))
        world.deliver()
        self.assertEqual(world.letters(), [("answer", 2)])
        self.accept(world, 0, 0, ("reached", LETTER, [(0, 0)]))
        self.accept(world, 1, 0, ("reached", LETTER, [(1, 0)]))
        world.deliver()
        self.reject(world, 1, 0, ("reached", LETTER, [(1, 0)]))
        world.send("ann", "z", "bob", "z")
        self.accept(world, 1, 0, ("reached", LETTER, [(1, 0)]))
        world.deliver()
        self.reject(world, 1, 0, ("reached", LETTER, [(1, 0)]))
        world.tidy(0, 0, "b")
        for word in ["seek", "found"]:
            self.assertEqual(world.letters()[0][0], word)
            self.accept(world, 1, 0, ("reached", LETTER, [(1, 0)]))
            world.deliver()
        self.reject(world, 1, 0, ("reached", LETTER, [(1, 0)]))
        world.drop("bob", "z")
        self.assertEqual(world.letters()[0][0], "back")
        self.accept(world, 1, 0, ("reached", LETTER, [(1, 0)]))

    def test_the_gift_of_an_ask(self):
        world = self.new_world()
        world.make("ann", "x", 0)
        world.make("ann", "y", 1)
        world.ask("ann", "x", ("take", "b"), gift="y")
        self.accept(world, 1, 0, ("reached", LETTER, [(1, 0)]))
        world.drop("ann", "y")
        world.deliver(1)
        self.assert_paper(world, 1, 0, ("reached", LETTER, [(1, 0)]))

    def test_a_back_alone(self):
        world = self.new_world()
        world.make("ann", "x", 0)
        world.drop("ann", "x")
        self.assert_paper(world, 0, 0, ("reached", LETTER, [(0, 0)]))

    def test_an_object_under_way_is_a_letter_and_its_old_slot_holds_nothing(self):
        world = self.boxed()
        world.drop("ann", "y")
        world.rest()
        world.move(0, 0, 2)
        self.assert_paper(world, 1, 0, ("reached", LETTER, [(1, 0)]))
        self.reject(world, 1, 0, ("reached", X, [(0, 0), (1, 0)]), ("reached", LETTER, [(0, 0), (1, 0)]))
        self.assert_paper(world, 0, 0, ("reached", X, [(0, 0)]))
        world.deliver()
        self.assertEqual(world.letters(), [("reply", 0, 0)])
        self.assert_paper(world, 2, 0, ("reached", LETTER, [(2, 0)]))
        self.assert_paper(world, 1, 0, ("reached", LETTER, [(2, 0), (1, 0)]))
        self.reject(world, 2, 0, ("reached", X, [(0, 0), (2, 0)]))
        world.deliver()
        self.assert_paper(world, 1, 0, ("reached", X, [(0, 0), (2, 0), (1, 0)]))

    def test_a_letter_that_waits_is_a_root(self):
        world = self.new_world()
        world.make("ann", "x", 0)
        world.make("ann", "y", 1)
        world.move(0, 0, 2)
        world.ask("ann", "x", ("take", "b"), gift="y")
        world.deliver(1)
        for name in ["x", "y"]:
            world.drop("ann", name)
            world.deliver(1)
        self.assertEqual(world.letters(), [("object", 0, 0, 2)])
        self.assert_paper(world, 0, 0, ("reached", LETTER, [(0, 0)]))
        self.assert_paper(world, 1, 0, ("reached", LETTER, [(1, 0)]))

    def test_a_variable_comes_before_a_letter_where_both_reach(self):
        world = self.new_world()
        world.make("ann", "x", 0)
        world.ask("ann", "x", ("get",))
        self.assert_paper(world, 0, 0, ("reached", X, [(0, 0)]))


class DeadTest(PaperCase):
    def test_an_object_that_holds_itself(self):
        world = self.dropped(self.ring(1))
        self.assert_paper(world, 0, 0, ("dead", [(0, 0)]))
        self.reject(world, 0, 0, ("reached", X, [(0, 0)]), ("reached", LETTER, [(0, 0)]), ("dead", []))
        self.reject(world, 0, 0, ("reached", ("box", 0, 0, "b"), [(0, 0)]), ("reached", (0, 0), [(0, 0)]))

    def test_a_ring(self):
        world = self.dropped(self.ring(3))
        for house in range(3):
            self.assert_paper(world, house, 0, ("dead", [(0, 0), (1, 0), (2, 0)]))
            self.reject(world, house, 0, ("dead", [(house, 0)]), ("dead", [(2, 0), (1, 0), (0, 0)]))
            self.reject(world, house, 0, ("dead", [(0, 0), (1, 0)]), ("dead", [(1, 0), (2, 0)]), ("dead", [(0, 0), (2, 0)]))
            self.reject(world, house, 0, ("dead", [(0, 0), (1, 0), (2, 0), (2, 0)]))
            self.reject(world, house, 0, ("dead", [(0, 0), (0, 0), (1, 0), (2, 0)]))
            self.reject(world, house, 0, ("dead", [(0, 0), (1, 0), (2, 0), (3, 0)]))
            self.reject(world, house, 0, ("dead", [(0, 0), (1, 0), (2, 0), (2, 1)]))
            self.reject(world, house, 0, ("dead", ((0, 0), (1, 0), (2, 0))))
            self.reject(world, house, 0, ("dead", [[0, 0], [1, 0], [2, 0]]))
            self.reject(world, house, 0, ["dead", [(0, 0), (1, 0), (2, 0)]])
            self.reject(world, house, 0, ("dead", [(0, False), (1, 0), (2, 0)]))
            self.reject(world, house, 0, ("dead", [(0, 0), (True, 0), (2, 0)]))

    def test_houses_and_numbers_below_0_are_no_slots(self):
        world = self.dropped(self.ring(6))
        slots = [(house, 0) for house in range(6)]
        self.accept(world, 0, 0, ("dead", slots))
        for other in [(-1, 0), (-6, 0), (-7, 0), (0, -1)]:
            self.reject(world, 0, 0, ("dead", sorted(slots + [other])))

    def test_what_a_dead_slot_holds_is_dead_and_the_holder_must_be_listed(self):
        world = self.ring(2)
        world.make("ann", "z", 2)
        self.ask(world, "ann", "x", ("take", "c"), gift="z")
        self.dropped(world)
        self.accept(world, 2, 0, ("dead", [(0, 0), (1, 0), (2, 0)]))
        self.reject(world, 2, 0, ("dead", [(2, 0)]), ("dead", [(0, 0), (2, 0)]))
        self.accept(world, 0, 0, ("dead", [(0, 0), (1, 0)]), ("dead", [(0, 0), (1, 0), (2, 0)]))
        self.reject(world, 2, 0, ("dead", [(0, 0), (1, 0)]))

    def test_two_rings_that_have_nothing_to_do_with_each_other(self):
        world = self.ring(2)
        world.make("bob", "x", 0)
        world.make("bob", "y", 1)
        for name, held in [("x", "y"), ("y", "x")]:
            self.ask(world, "bob", name, ("take", "b"), gift=held)
        self.dropped(world)
        self.accept(world, 0, 0, ("dead", [(0, 0), (1, 0)]))
        self.reject(world, 0, 0, ("dead", [(0, 0), (0, 1), (1, 0), (1, 1)]), ("dead", [(0, 0), (0, 1), (1, 0)]))
        self.reject(world, 0, 1, ("dead", [(0, 1), (1, 1)]))
        for name in ["x", "y"]:
            world.drop("bob", name)
        world.rest()
        self.accept(world, 0, 0, ("dead", [(0, 0), (1, 0)]), ("dead", [(0, 0), (0, 1), (1, 0), (1, 1)]))
        self.accept(world, 0, 1, ("dead", [(0, 1), (1, 1)]), ("dead", [(0, 0), (0, 1), (1, 0), (1, 1)]))
        self.reject(world, 0, 1, ("dead", [(0, 0), (1, 0)]), ("dead", [(0, 0), (0, 1), (1, 0)]))
        self.reject(world, 0, 0, ("dead", [(0, 0), (1, 0), (0, 1), (1, 1)]))

    def test_a_ring_that_a_slot_outside_holds(self):
        world = self.ring(2)
        world.make("ann", "z", 2)
        self.ask(world, "ann", "z", ("take", "b"), gift="x")
        world.drop("ann", "x")
        world.drop("ann", "y")
        world.rest()
        self.reject(world, 0, 0, ("dead", [(0, 0), (1, 0)]), ("dead", [(0, 0), (1, 0), (2, 0)]))
        path = [(2, 0), (0, 0), (1, 0)]
        self.assert_paper(world, 1, 0, ("reached", ("variable", "ann", "z"), path))

    def test_a_letter_that_holds_one_of_them(self):
        world = self.ring(2)
        world.drop("ann", "x")
        world.drop("ann", "y")
        world.deliver()
        self.assert_paper(world, 0, 0, ("reached", LETTER, [(1, 0), (0, 0)]))
        self.reject(world, 0, 0, ("dead", [(0, 0), (1, 0)]))
        world.deliver()
        self.assert_paper(world, 0, 0, ("dead", [(0, 0), (1, 0)]))

    def test_notes_among_the_dead(self):
        world = self.ring(2)
        world.move(0, 0, 3)
        world.rest()
        self.dropped(world)
        self.assertEqual(world.slots(0)[0][1], "note")
        slots = [(0, 0), (1, 0), (3, 0)]
        for place in slots:
            self.assert_paper(world, *place, ("dead", slots))
            self.reject(world, *place, ("dead", [(1, 0), (3, 0)]), ("dead", [(0, 0), (1, 0)]))

    def test_a_departing_slot_of_which_nobody_holds_a_part(self):
        world = self.new_world()
        world.make("ann", "x", 0)
        world.drop("ann", "x")
        world.move(0, 0, 1)
        self.assert_paper(world, 0, 0, ("reached", LETTER, [(0, 0)]))
        world.deliver()
        self.assertEqual(world.slots(0), [(0, "departing", 0, (1, 1))])
        self.assert_paper(world, 0, 0, ("dead", [(0, 0)]))
        world.deliver()
        self.assert_paper(world, 0, 0, ("dead", [(0, 0)]))
        self.assert_paper(world, 1, 0, ("reached", LETTER, [(1, 0)]))
        self.reject(world, 0, 0, ("dead", [(0, 0), (1, 0)]))

    def test_a_departing_slot_that_a_dead_one_holds(self):
        world = self.dropped(self.ring(2))
        world.move(0, 0, 2)
        world.deliver()
        # The object, now at (2, 0), is held by the reply alone.
        self.assert_paper(world, 0, 0, ("reached", LETTER, [(2, 0), (1, 0), (0, 0)]))
        self.reject(world, 0, 0, ("dead", [(0, 0), (1, 0), (2, 0)]), ("dead", [(0, 0), (1, 0)]))


class HoldsTest(PaperCase):
    def test_any_other_value(self):
        reached = self.boxed()
        dead = self.dropped(self.ring(2))
        for paper in NO_PAPERS:
            self.reject(reached, 0, 0, paper)
            self.reject(dead, 0, 0, paper)

    def test_any_other_list(self):
        alone = self.dropped(self.ring(1))
        world = self.new_world()
        world.make("ann", "x", 0)
        self.accept(world, 0, 0, ("reached", X, [(0, 0)]))
        self.accept(alone, 0, 0, ("dead", [(0, 0)]))
        for value in NO_LISTS:
            self.reject(world, 0, 0, ("reached", X, value), ("dead", value), ("reached", value, [(0, 0)]))
            self.reject(alone, 0, 0, ("reached", X, value), ("dead", value), ("reached", value, [(0, 0)]))

    def test_any_other_root(self):
        world = self.new_world()
        world.make("ann", "x", 0)
        self.ask(world, "ann", "x", ("take", "b"), gift="x")
        self.accept(world, 0, 0, ("reached", X, [(0, 0)]))
        for root in NO_ROOTS:
            self.reject(world, 0, 0, ("reached", root, [(0, 0)]))
        for name in NO_NAMES:
            self.reject(world, 0, 0, ("reached", ("variable", "ann", name), [(0, 0)]))
            self.reject(world, 0, 0, ("reached", ("variable", name, "x"), [(0, 0)]))

    def test_the_root_of_a_letter_among_other_values(self):
        world = self.new_world()
        world.make("ann", "x", 0)
        world.drop("ann", "x")
        self.accept(world, 0, 0, ("reached", LETTER, [(0, 0)]))
        for root in NO_ROOTS + [X]:
            self.reject(world, 0, 0, ("reached", root, [(0, 0)]))

    def test_booleans_are_no_integers(self):
        world = World(2, ["ann"])
        world.make("ann", "x", 0)
        world.make("ann", "y", 1)
        world.make("ann", "y", 1)
        self.accept(world, 1, 1, ("reached", Y, [(1, 1)]))
        self.reject(world, 1, 1, ("reached", Y, [(True, 1)]), ("reached", Y, [(1, True)]), ("reached", Y, [(True, True)]))
        self.reject(world, 0, 0, ("reached", X, [(False, 0)]), ("reached", X, [(0, False)]))

    def test_lists_for_tuples_and_tuples_for_lists(self):
        world = self.boxed()
        root, path = X, [(0, 0), (1, 0)]
        self.accept(world, 1, 0, ("reached", root, path))
        wrong = [
            ["reached", root, path], ("reached", list(root), path), ("reached", root, tuple(path)),
            ("reached", root, [[0, 0], (1, 0)]), ("reached", root, [(0, 0), [1, 0]]), ("reached", root, {(0, 0): 0, (1, 0): 1}),
        ]
        self.reject(world, 1, 0, *wrong)

    def test_large_values(self):
        world = self.boxed()
        path = [(0, 0), (1, 0)] * 500
        self.reject(world, 1, 0, ("reached", X, path), ("dead", path), ("reached", X, [(0, 0)] * 1000 + [(1, 0)]))
        self.reject(world, 1, 0, ("dead", [(0, number) for number in range(900)] + [(1, 0)]))
        self.reject(world, 1, 0, "reached" * 500, ["dead"] * 1900)

    def test_errors(self):
        world = self.boxed()
        world.move(1, 0, 2)
        paper = ("reached", X, [(0, 0)])
        for house in NO_NUMBERS + [3]:
            self.assert_refused(world, NoHouse, "house", house, paper_of, world, house, 7)
            self.assert_refused(world, NoHouse, "house", house, holds, world, house, 7, paper)
        for number in NO_NUMBERS + [1, 2]:
            self.assert_refused(world, NoSlot, "number", number, paper_of, world, 0, number)
            self.assert_refused(world, NoSlot, "number", number, holds, world, 0, number, paper)
        for paper in NO_PAPERS:
            self.assert_refused(world, NoSlot, "number", 0, holds, world, 2, 0, paper)

    def test_arguments_by_name(self):
        world = self.boxed()
        paper = paper_of(world=world, house=0, number=0)
        self.assertIs(holds(world=world, house=0, number=0, paper=paper), True)

    def test_nothing_is_changed(self):
        world = self.boxed()
        before = self.view(world)
        paper = ("reached", X, [(0, 0), (1, 0)])
        kept = ("reached", X, [(0, 0), (1, 0)])
        self.accept(world, 1, 0, paper)
        self.assert_exact(paper, kept)
        paper_of(world, 1, 0)
        self.assertEqual(self.view(world), before)

    def test_the_lists_of_papers_are_new(self):
        for world in [self.boxed(), self.dropped(self.ring(2))]:
            first = paper_of(world, 1, 0)
            second = paper_of(world, 1, 0)
            first[-1].clear()
            self.assert_exact(paper_of(world, 1, 0), second)
            self.accept(world, 1, 0, second)

    def test_within_a_trial_and_while_a_function_chooses(self):
        world = self.boxed()
        world.drop("ann", "y")
        seen = []

        def alone(world):
            world.drop("ann", "x")
            world.rest()
            world.make("bob", "u", 1)
            return paper_of(world, 1, 0)

        self.assert_exact(world.trial(alone), ("reached", ("variable", "bob", "u"), [(1, 0)]))

        def by(letters):
            seen.append(paper_of(world, 1, 0))
            seen.append(holds(world, 1, 0, seen[0]))
            return 0

        world.rest(by=by)
        self.assertEqual(seen[1:], [True])


def replaced(paper):
    """Return values that are nearly a paper: one item of it replaced, removed, added or put elsewhere."""
    word, *middle, places = paper
    values = [
        (word, *middle, places + places[-1:]), (word, *middle, places[1:]), (word, *middle, places[:-1]), (word, *middle, []),
        (word, *middle, places[::-1]), (word, *middle, tuple(places)), [word, *middle, places], (word, places),
        (word, *middle, places, places), ("dead", *middle, places), ("reached", *middle, places), ("dead", places),
        (word, *middle, [list(place) for place in places]), (word, *middle, places[:1] + places), (None, *middle, places),
        (word, *[list(root) for root in middle], places),
    ]
    for at, (house, number) in enumerate(places):
        for other in [(house, number + 1), (house + 1, number), (number, house), (str(house), number), (house,), [house, number],
                      (bool(house), number), (house, bool(number)), (house, number, 0), None]:
            values.append((word, *middle, places[:at] + [other] + places[at + 1:]))
    for root in middle:
        for other in [("letter",), ("variable", "ann", "x"), ("variable", "ann", "y"), ("variable", "bob", "x"), root[:-1]]:
            values.append((word, other, places))
    return values


def well_formed(paper):
    """Return whether a value has just the kinds of values of a paper."""
    if not isinstance(paper, tuple) or not paper or not isinstance(paper[-1], list):
        return False
    if any(exact(place)[0] != "tuple" or [item[0] for item in exact(place)[1]] != ["int", "int"] for place in paper[-1]):
        return False
    if paper[0] == "dead":
        return len(paper) == 2
    return paper[0] == "reached" and len(paper) == 3 and isinstance(paper[1], tuple) and len(paper[1]) in (1, 3)


class DrawnPapersTest(unittest.TestCase):
    def drawn(self, seed, weights, events):
        chance = random.Random(seed)
        pair = Pair(self, 3, ["ann", "bob"])
        for step in range(events):
            pair.do(random_event(chance, pair.model, weights))
            yield pair

    def places(self, pair):
        return [(house, row[0]) for house in range(pair.houses) for row in pair.world.slots(house)]

    def check(self, pair, place, paper):
        expected = well_formed(paper) and pair.model.accepts(*place, paper)
        self.assertIs(holds(pair.world, *place, paper), expected, (place, paper))

    def test_each_slot_has_a_paper_that_is_accepted_and_is_of_the_right_kind(self):
        kinds = []
        for seed in range(24):
            with self.subTest(seed=seed):
                for pair in self.drawn(seed, [DYING, BUSY][seed % 2], 150):
                    reached = pair.model.reached(also_by_letters=True)
                    for place in self.places(pair):
                        paper = paper_of(pair.world, *place)
                        self.assertTrue(pair.model.accepts(*place, paper), paper)
                        self.assertIs(holds(pair.world, *place, paper), True)
                        self.assertEqual(paper[0] == "reached", place in reached)
                        kinds.append(paper[0])
        self.assertGreater(kinds.count("dead"), 500)

    def test_values_that_are_nearly_papers(self):
        for seed in range(8):
            with self.subTest(seed=seed):
                *rest, pair = self.drawn(100 + seed, [DYING, BUSY][seed % 2], 90)
                for place, other in itertools.product(self.places(pair), repeat=2):
                    for paper in replaced(paper_of(pair.world, *place)):
                        self.check(pair, other, paper)

    def test_all_short_papers(self):
        """Each path of up to three slots and each set of slots, from any root, of each slot; one kind for each slot."""
        for seed in range(10):
            *rest, pair = self.drawn(200 + seed, [DYING, BUSY][seed % 2], 60)
            places = self.places(pair)[:7]
            roots = [("letter",)] + [("variable", hand, name) for hand in pair.hands for name in ["x", "y", "z"]]
            paths = [list(path) for size in (1, 2, 3) for path in itertools.product(places, repeat=size)]
            sets = [list(some) for size in range(len(places) + 1) for some in itertools.combinations(places, size)]
            with self.subTest(seed=seed):
                for path in paths:
                    for root in roots:
                        self.check(pair, path[-1], ("reached", root, path))
                for place in places:
                    for some in sets:
                        self.check(pair, place, ("dead", some))

    def test_just_one_kind_for_each_slot(self):
        kinds = []
        for seed in range(20):
            *rest, pair = self.drawn(300 + seed, DYING, 50)
            places = self.places(pair)
            with self.subTest(seed=seed):
                self.assertLess(len(places), 13)
                for place in places:
                    others = [other for other in places if other != place]
                    sets = [sorted([place, *some]) for size in range(len(places))
                            for some in itertools.combinations(others, size)]
                    dead = any(holds(pair.world, *place, ("dead", some)) for some in sets)
                    kinds.append(paper_of(pair.world, *place)[0])
                    self.assertEqual(kinds[-1], "dead" if dead else "reached")
        self.assertGreater(kinds.count("dead"), 10)


if __name__ == "__main__":
    unittest.main()

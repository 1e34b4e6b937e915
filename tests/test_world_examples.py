"""The examples that the document gives for worlds and all that is made of them."""

import unittest

from tests.cases import WorldCase
from trailparts.desk import Desk
from trailparts.errors import NoTicket
from trailparts.histories import history_text, played, read_history
from trailparts.papers import holds, paper_of
from trailparts.trails import notes_ahead, notes_passed, trail_from
from trailparts.weights import holders
from trailparts.worlds import World


class ExamplesTest(WorldCase):
    def test_the_world(self):
        w = World(3, ["ann", "bob"])
        self.assertIsNone(w.make("ann", "x", 0))
        self.assert_exact(w.address("ann", "x"), (0, 0, 0, (1, 1)))
        self.assert_exact(w.ask("ann", "x", ("add", 5)), 1)
        self.assert_exact(w.letters(), [("ask", 1, 0, 0)])
        self.assert_exact(w.rest(), 2)
        self.assert_exact(w.answer(1), 5)
        self.assertIsNone(w.move(0, 0, 2))
        self.assert_exact(w.deliver(), ("object", 0, 0, 2))
        self.assert_exact(w.rest(), 1)
        self.assert_exact(w.inside(0, 0), ("note", (2, 0, 1, (1, 1))))
        self.assert_exact(w.ask("ann", "x", ("take", "b"), gift="x"), 2)
        self.assert_exact(w.rest(), 4)
        self.assert_exact(w.inside(2, 0), ("object", 5, {"b": (0, 0, 0, (1, 4))}))
        self.assertIsNone(w.tidy(2, 0, "b"))
        self.assert_exact(w.rest(), 5)
        self.assert_exact(w.inside(2, 0), ("object", 5, {"b": (2, 0, 1, (1, 4))}))
        self.assertIsNone(w.drop("ann", "x"))
        self.assert_exact(w.letters(), [("back", 2, 0, (1, 2))])
        self.assert_exact(w.rest(), 1)
        self.assert_exact(w.look(), 1)
        self.assert_exact(w.rest(), 8)
        self.assert_exact([w.slots(house) for house in [0, 1, 2]], [[], [], []])
        self.assert_raises(NoTicket, "ticket", 3, w.answer, 3)

    def test_trails(self):
        w = World(3, ["ann"])
        w.make("ann", "x", 0)
        w.move(0, 0, 2)
        self.assert_exact(notes_ahead(w, "ann", "x"), 1)
        self.assert_exact(trail_from(w, 0, 0), [(0, 0)])
        self.assert_exact(w.deliver(), ("object", 0, 0, 2))
        self.assert_exact(trail_from(w, 0, 0), [(0, 0), (2, 0)])
        self.assert_exact(w.ask("ann", "x", ("get",)), 1)
        self.assert_exact(w.rest(), 6)
        self.assert_exact(notes_passed(w, 1), 1)

    def test_papers(self):
        w = World(3, ["ann"])
        w.make("ann", "x", 0)
        self.assert_exact(holders(w, 0, 0), [(("variable", "ann", "x"), (1, 1))])
        self.assert_exact(paper_of(w, 0, 0), ("reached", ("variable", "ann", "x"), [(0, 0)]))
        self.assertIs(holds(w, 0, 0, ("dead", [(0, 0)])), False)

    def test_histories(self):
        w = World(2, ["ann"])
        w.make("ann", "x", 0)
        self.assert_exact(w.ask("ann", "x", ("give", "b"), target="y"), 1)
        self.assertEqual(history_text(w.history()), "make ann x 0\nask ann x give b into y")
        self.assert_exact(read_history("deliver 0"), [("deliver", 0)])
        self.assertIs(played(2, ["ann"], w.history()) == w, True)

    def test_the_desk(self):
        d = Desk()
        self.assertEqual(d.say("world 2 ann"), "ok")
        self.assertEqual(d.say("make ann x 1"), "ok")
        self.assertEqual(d.say("slots 1"), "0 object 0 0")


if __name__ == "__main__":
    unittest.main()

"""The examples that the document gives for worlds and trails."""

import unittest

from tests.cases import WorldCase
from trailparts.errors import NoTicket
from trailparts.trails import notes_ahead, notes_passed, trail_from
from trailparts.worlds import World


class ExamplesTest(WorldCase):
    def test_the_world(self):
        w = World(3, ["ann", "bob"])
        self.assertIsNone(w.make("ann", "x", 0))
        self.assert_exact(w.address("ann", "x"), (0, 0, 0, (1, 1)))
        self.assert_exact(w.ask("ann", "x", ("add", 5)), 1)
        self.assert_exact(w.letters(), [("ask", 1, 0, 0)])
        self.assert_exact(w.rest(), 2)
        self.assert_exact(w.answer(1), 5)
        self.assertIsNone(w.move(0, 0, 2))
        self.assert_exact(w.deliver(), ("object", 0, 0, 2))
        self.assert_exact(w.rest(), 1)
        self.assert_exact(w.inside(0, 0), ("note", (2, 0, 1, (1, 1))))
        self.assert_exact(w.ask("ann", "x", ("take", "b"), gift="x"), 2)
        self.assert_exact(w.rest(), 4)
        self.assert_exact(w.inside(2, 0), ("object", 5, {"b": (0, 0, 0, (1, 4))}))
        self.assertIsNone(w.tidy(2, 0, "b"))
        self.assert_exact(w.rest(), 5)
        self.assert_exact(w.inside(2, 0), ("object", 5, {"b": (2, 0, 1, (1, 4))}))
        self.assertIsNone(w.drop("ann", "x"))
        self.assert_exact(w.letters(), [("back", 2, 0, (1, 2))])
        self.assert_exact(w.rest(), 1)
        self.assert_exact(w.look(), 1)
        self.assert_exact(w.rest(), 8)
        self.assert_exact([w.slots(house) for house in [0, 1, 2]], [[], [], []])
        self.assert_raises(NoTicket, "ticket", 3, w.answer, 3)

    def test_trails(self):
        w = World(3, ["ann"])
        w.make("ann", "x", 0)
        w.move(0, 0, 2)
        self.assert_exact(notes_ahead(w, "ann", "x"), 1)
        self.assert_exact(trail_from(w, 0, 0), [(0, 0)])
        self.assert_exact(w.deliver(), ("object", 0, 0, 2))
        self.assert_exact(trail_from(w, 0, 0), [(0, 0), (2, 0)])
        self.assert_exact(w.ask("ann", "x", ("get",)), 1)
        self.assert_exact(w.rest(), 6)
        self.assert_exact(notes_passed(w, 1), 1)


if __name__ == "__main__":
    unittest.main()

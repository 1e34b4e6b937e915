"""Point 28: the text of a history, and reading it."""

import random
import unittest

from tests.cases import WorldCase
from tests.compare import exact, random_world
from tests.grammar import event_told, events_told
from tests.samples import OTHER_VALUES
from trailparts.errors import NoText
from trailparts.histories import history_text, read_history
from trailparts.worlds import World

# Each form of a row, and the event that it tells.
PAIRS = [
    ("make ann x 0", ("make", "ann", "x", 0)),
    ("make a abcdef 5", ("make", "a", "abcdef", 5)),
    ("ask ann x get", ("ask", "ann", "x", ("get",), None, None)),
    ("ask ann x add 5", ("ask", "ann", "x", ("add", 5), None, None)),
    ("ask ann x add 0", ("ask", "ann", "x", ("add", 0), None, None)),
    ("ask ann x add -1", ("ask", "ann", "x", ("add", -1), None, None)),
    ("ask ann x add -120", ("ask", "ann", "x", ("add", -120), None, None)),
    ("ask ann x add 1000000000", ("ask", "ann", "x", ("add", 10 ** 9), None, None)),
    ("ask ann x add -1000000000", ("ask", "ann", "x", ("add", -10 ** 9), None, None)),
    ("ask ann x add 999999999", ("ask", "ann", "x", ("add", 10 ** 9 - 1), None, None)),
    ("ask ann x boxes", ("ask", "ann", "x", ("boxes",), None, None)),
    ("ask ann x take b with y", ("ask", "ann", "x", ("take", "b"), "y", None)),
    ("ask ann x clear b", ("ask", "ann", "x", ("clear", "b"), None, None)),
    ("ask ann x give b into z", ("ask", "ann", "x", ("give", "b"), None, "z")),
    ("ask ann x make into z", ("ask", "ann", "x", ("make",), None, "z")),
    ("ask ann x clone into z", ("ask", "ann", "x", ("clone",), None, "z")),
    ("share ann x y", ("share", "ann", "x", "y")),
    ("drop ann x", ("drop", "ann", "x")),
    ("send ann x bob y", ("send", "ann", "x", "bob", "y")),
    ("move 0 12 2", ("move", 0, 12, 2)),
    ("tidy 1 0 b", ("tidy", 1, 0, "b")),
    ("look", ("look",)),
    ("deliver 0", ("deliver", 0)),
    ("deliver 10", ("deliver", 10)),
    # Names that are words of rows.
    ("ask ann x take into with with", ("ask", "ann", "x", ("take", "into"), "with", None)),
    ("ask ann x take with with into", ("ask", "ann", "x", ("take", "with"), "into", None)),
    ("ask ann x take with with with", ("ask", "ann", "x", ("take", "with"), "with", None)),
    ("ask ann x give with into with", ("ask", "ann", "x", ("give", "with"), None, "with")),
    ("ask ann x give into into into", ("ask", "ann", "x", ("give", "into"), None, "into")),
    ("ask ann x clear with", ("ask", "ann", "x", ("clear", "with"), None, None)),
    ("ask ann x clear into", ("ask", "ann", "x", ("clear", "into"), None, None)),
    ("ask ask ask make into ask", ("ask", "ask", "ask", ("make",), None, "ask")),
    ("ask add take get", ("ask", "add", "take", ("get",), None, None)),
    ("ask with into clone into into", ("ask", "with", "into", ("clone",), None, "into")),
    ("ask get get add 1", ("ask", "get", "get", ("add", 1), None, None)),
    ("ask make make take make with make", ("ask", "make", "make", ("take", "make"), "make", None)),
    ("make make make 1", ("make", "make", "make", 1)),
    ("drop drop drop", ("drop", "drop", "drop")),
    ("share share look look", ("share", "share", "look", "look")),
    ("send send send send send", ("send", "send", "send", "send", "send")),
    ("tidy 0 0 tidy", ("tidy", 0, 0, "tidy")),
]
# Numbers that may stand in a text, although no world has so many houses, slots or letters.
LARGE_PAIRS = [
    ("make ann x 6", ("make", "ann", "x", 6)),
    ("make ann x 999999999", ("make", "ann", "x", 999999999)),
    ("move 999999999 999999999 999999999", ("move", 999999999, 999999999, 999999999)),
    ("move 0 0 0", ("move", 0, 0, 0)),
    ("tidy 999999999 999999999 b", ("tidy", 999999999, 999999999, "b")),
    ("deliver 999999999", ("deliver", 999999999)),
    ("deliver 100000000", ("deliver", 100000000)),
]
NO_ROWS = [
    "", " ", "  ", "x", "0", "-", "None", "look ", " look", "look look", "look 1", "looks", "Look", "LOOK", "look\t", "loo k",
    "make", "make ann", "make ann x", "make ann x 0 0", "make  ann x 0", "make ann  x 0", "make ann x  0", " make ann x 0",
    "make ann x 0 ", "make ann x -1", "make ann x -0", "make ann x +0", "make ann x 00", "make ann x 01", "make ann x 0x",
    "make ann x 1.0", "make ann x 1e3", "make ann x 1_0", "make ann x x", "make ann x 1000000000", "make ann x 9999999999",
    "make ann x 10000000000000000000000000000", "make Ann x 0", "make ann X 0", "make ann x1 0", "make ann abcdefg 0",
    "make abcdefg x 0", "make ann 0 x", "make 0 ann x", "Make ann x 0", "mak ann x 0", "makee ann x 0", "make,ann,x,0",
    "make ann,x 0", "make\tann\tx\t0", "ask", "ask ann", "ask ann x", "ask ann x ", "ask ann x got", "ask ann x Get",
    "ask ann x get get", "ask ann x get 0", "ask ann x get b", "ask ann x get with y", "ask ann x get into y",
    "ask ann x get with", "ask ann x get with 0", "ask ann x get with Y", "ask ann x get with ", "ask ann x get into",
    "ask ann x get into Y", "ask ann x get foo y", "ask ann x get  ", "ask ann get", "ask x get", "ask ann X get",
    "ask 1 x get", "ask ann 1 get", "ask ann x add", "ask ann x add ", "ask ann x add b", "ask ann x add 05", "ask ann x add +5",
    "ask ann x add -0", "ask ann x add -05", "ask ann x add --5", "ask ann x add 5-", "ask ann x add - 5", "ask ann x add -",
    "ask ann x add 1000000001", "ask ann x add -1000000001", "ask ann x add 2000000000", "ask ann x add 10000000000",
    "ask ann x add 99999999999999999999999", "ask ann x add 5 5", "ask ann x add 5 with y", "ask ann x add 5 into y",
    "ask ann x add 1.0", "ask ann x add 0x1", "ask ann x add 1_000", "ask ann x boxes b", "ask ann x boxes with y",
    "ask ann x boxes into y", "ask ann x take", "ask ann x take b", "ask ann x take with y", "ask ann x take b y",
    "ask ann x take b with", "ask ann x take b with ", "ask ann x take b with Y", "ask ann x take b with 0",
    "ask ann x take b into y", "ask ann x take b with y into z", "ask ann x take b into z with y", "ask ann x take b with y z",
    "ask ann x take b with y with y", "ask ann x take with with", "ask ann x take into with", "ask ann x take B with y",
    "ask ann x take 0 with y", "ask ann x take abcdefg with y", "ask ann x take b b with y", "ask ann x with y take b",
    "ask ann x take b  with y", "ask ann x take b with  y", "ask ann x clear", "ask ann x clear 0", "ask ann x clear b with y",
    "ask ann x clear b into y", "ask ann x clear b b", "ask ann x clear B", "ask ann x give", "ask ann x give b",
    "ask ann x give into z", "ask ann x give b z", "ask ann x give b with y", "ask ann x give b into", "ask ann x give b into Z",
    "ask ann x give b into z z", "ask ann x give b with y into z", "ask ann x give b into z with y", "ask ann x give 1 into z",
    "ask ann x make", "ask ann x make z", "ask ann x make b into z", "ask ann x make with z", "ask ann x make into",
    "ask ann x make into Z", "ask ann x make into z into z", "ask ann x make 0 into z", "ask ann x clone", "ask ann x clone z",
    "ask ann x clone b into z", "ask ann x clone with z", "ask ann x clone into 1", "ask ann x clone into",
    "ask ann x ('get',)", "ask ann x ask", "ask ann x look", "share", "share ann", "share ann x", "share ann x y z",
    "share ann x Y", "share ann x 1", "share 1 x y", "share ann x y ", "drop", "drop ann", "drop ann x x", "drop ann X",
    "drop ann 0", "drop Ann x", "send", "send ann", "send ann x", "send ann x bob", "send ann x bob y z", "send ann x Bob y",
    "send ann x bob 0", "send ann x 0 y", "send ann 0 bob y", "move", "move 0", "move 0 0", "move 0 0 1 1", "move 0 0 x",
    "move a 0 1", "move 0 b 1", "move -1 0 1", "move 0 -1 1", "move 0 0 -1", "move 00 0 1", "move 0 00 1", "move 0 0 01",
    "move 1000000000 0 1", "move 0 1000000000 1", "move 0 0 1000000000", "move 0 0  1", "tidy", "tidy 0", "tidy 0 0",
    "tidy 0 0 0", "tidy 0 0 B", "tidy 0 0 b b", "tidy 0 b 0", "tidy -0 0 b", "tidy 0 1000000000 b", "tidy 1000000000 0 b",
    "deliver", "deliver ", "deliver x", "deliver -1", "deliver -0", "deliver 00", "deliver 01", "deliver 0 0", "deliver 1000000000",
    "deliver 0 ", " deliver 0", "deliver  0", "deliver +1", "deliver 1,0", "deliver True", "deliver None", "deliver (0)",
    "rest", "letters", "world 2 ann", "answer 1", "slots 0", "ahead ann x", "names ann", "trial", "log", "history",
    "make ann x 0;look", "make ann x 0,look", "('look',)", "look\r", "'look'", "# look",
]


class TextTest(WorldCase):
    def test_each_form_of_a_row(self):
        for row, event in PAIRS:
            self.assertEqual(history_text([event]), row)
            self.assert_exact(read_history(row), [event], row)
            self.assert_exact(event_told(row), event, row)

    def test_numbers_that_no_world_has(self):
        for row, event in LARGE_PAIRS:
            self.assert_exact(read_history(row), [event], row)
            self.assertEqual(history_text([event]), row)
            self.assert_exact(event_told(row), event, row)

    def test_many_rows(self):
        rows = [row for row, event in PAIRS]
        events = [event for row, event in PAIRS]
        self.assertEqual(history_text(events), "\n".join(rows))
        self.assert_exact(read_history("\n".join(rows)), events)
        self.assertEqual(history_text(events * 20), "\n".join(rows * 20))
        self.assert_exact(read_history("\n".join(rows * 20)), events * 20)

    def test_no_events(self):
        self.assert_exact(history_text([]), "")
        self.assert_exact(read_history(""), [])

    def test_the_text_of_a_world_is_that_of_its_history(self):
        for seed in range(12):
            world, model = random_world(seed, 120)
            text = history_text(world.history())
            self.assertIs(text.__class__, str)
            self.assertEqual(text, str(world))
            self.assert_exact(read_history(text), world.history())
            self.assert_exact(events_told(text), world.history())
        self.assertEqual(str(World(1, ["ann"])), "")

    def test_the_text_within_a_trial(self):
        world = World(2, ["ann"])
        world.make("ann", "x", 0)
        self.assertEqual(world.trial(lambda world: (world.look(), str(world))[1]), "make ann x 0\nlook")
        self.assertEqual(str(world), "make ann x 0")

    def test_the_lists_are_new_and_not_changed(self):
        events = [event for row, event in PAIRS]
        kept = list(events)
        history_text(events)
        self.assert_exact(events, kept)
        text = "look\ndeliver 0"
        first = read_history(text)
        first.clear()
        self.assert_exact(read_history(text), [("look",), ("deliver", 0)])
        self.assert_exact(read_history(""), [])
        self.assertIs(first.__class__, list)

    def test_arguments_by_name(self):
        self.assertEqual(history_text(events=[("look",)]), "look")
        self.assertEqual(read_history(text="look"), [("look",)])


class NoTextTest(WorldCase):
    def assert_none(self, place, text):
        self.assert_raises(NoText, "row", place, read_history, text)

    def test_what_is_no_string(self):
        for value in OTHER_VALUES + [["look"], ("look",), [("look",)], {"look": 1}, b"look", [""], ("deliver 0",)]:
            if not isinstance(value, str):
                self.assert_none(-1, value)

    def test_other_strings(self):
        for value in OTHER_VALUES:
            if isinstance(value, str) and value:
                self.assert_none(0, value)

    def test_rows_that_are_nearly_ones(self):
        for row in NO_ROWS:
            self.assertIsNone(event_told(row), row)
            if row:
                self.assert_none(0, row)
            self.assert_none(1, "look\n" + row)
            self.assert_none(0, row + "\nlook")
            self.assert_none(2, "look\ndeliver 5\n" + row + "\n" + row)

    def test_empty_rows(self):
        self.assert_none(0, "\n")
        self.assert_none(0, "\n\n\n")
        self.assert_none(1, "look\n")
        self.assert_none(0, "\nlook")
        self.assert_none(1, "look\n\nlook")
        self.assert_none(2, "look\nlook\n")

    def test_rows_are_separated_by_newlines_alone(self):
        for sign in ["\r\n", "\r", "\x0b", "\x0c", "\x1c", "\x85", "\u2028", ";", ",", " ", "\\n"]:
            self.assert_none(0, "look" + sign + "look")

    def test_digits_and_letters_of_other_kinds(self):
        for text in ["deliver \u0661", "deliver \u00b2", "deliver \uff11", "drop \u00e4 x", "drop ann \u03b1", "look\u00a0"]:
            self.assert_none(0, text)

    def test_long_strings(self):
        for text in ["look" * 1000, "deliver " + "9" * 3900, "deliver " + "0" * 3900, "make ann x " + "1" * 3900, " " * 4000,
                     "ask ann x add " + "5" * 3900, "ask ann x add -" + "5" * 3900, "a" * 4000, "drop ann " + "x" * 3900]:
            self.assert_none(0, text)
        self.assert_none(4000, "look\n" * 4000)
        self.assert_none(0, "deliver " + "9" * 10000)

    def test_rows_with_one_sign_put_in_left_out_or_changed(self):
        signs = [chr(code) for code in range(32, 127) if code != 37] + ["\n"]
        for row, event in PAIRS + LARGE_PAIRS:
            for at in range(len(row) + 1):
                texts = [row[:at] + sign + row[at:] for sign in signs]
                if at < len(row):
                    texts.extend([row[:at] + sign + row[at + 1:] for sign in signs] + [row[:at] + row[at + 1:]])
                for text in texts:
                    self.check(text)

    def test_words_put_in_left_out_or_changed(self):
        words = ["with", "into", "x", "ask", "add", "get", "take", "give", "make", "5", "-5", "0", "", "b", "look", "abcdefg", "-"]
        for row, event in PAIRS:
            parts = row.split(" ")
            for at in range(len(parts) + 1):
                for word in words:
                    self.check(" ".join(parts[:at] + [word] + parts[at:]))
                    self.check(" ".join(parts[:at] + [word] + parts[at + 1:]))
                self.check(" ".join(parts[:at] + parts[at + 1:]))
                self.check(" ".join(parts[:at] + parts[at + 1:at + 2] + parts[at:at + 1] + parts[at + 2:]))

    def test_drawn_rows(self):
        chance = random.Random(28)
        words = ["ask", "ann", "x", "add", "get", "take", "give", "clear", "make", "clone", "boxes", "with", "into", "5", "-5", "0",
                 "b", "share", "drop", "send", "move", "tidy", "look", "deliver", "12"]
        found = 0
        for step in range(20000):
            row = " ".join(chance.choice(words) for count in range(chance.randrange(1, 9)))
            found += event_told(row) is not None
            self.check(row)
            text = chance.choice([row, "look"]) + "\n" + row
            self.check(text)
        self.assertGreater(found, 100)

    def check(self, text):
        """Compare what is read with the second reading."""
        expected = events_told(text)
        if isinstance(expected, int):
            self.assert_none(expected, text)
        else:
            events = read_history(text)
            self.assertEqual(exact(events), exact(expected), text)
            self.assertEqual(history_text(events), text)


if __name__ == "__main__":
    unittest.main()

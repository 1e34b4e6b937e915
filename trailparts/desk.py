"""A desk: a world that is told what to do, and asked, in rows."""

from trailparts.doing import do_event
from trailparts.errors import NoSaying, NoWorld
from trailparts.parts import part_text
from trailparts.reading import event_of, name_told, number_told, told_by
from trailparts.trails import notes_ahead
from trailparts.worlds import World

# What follows the first word of the rows that no history has; the row of a new world has a form of its own.
QUESTIONS = {
    "rest": (),
    "letters": (),
    "answer": ("number",),
    "slots": ("number",),
    "ahead": ("name", "name"),
    "names": ("name",),
}


class Desk:
    """A desk with a world or none."""

    def __init__(self):
        self.world = None

    def say(self, row):
        """Do what a row says; return the answer."""
        saying = saying_of(row)
        if saying is None:
            raise NoSaying()
        if saying[0] == "world":
            self.world = World(saying[1], saying[2])
            return "ok"
        if self.world is None:
            raise NoWorld()
        if saying[0] in REPLIES:
            action = REPLIES[saying[0]]
            return action(self.world, saying)
        return text_of_result(do_event(self.world, saying))


def saying_of(row):
    """Return the tuple that any value tells as a row of a desk, or None."""
    if not isinstance(row, str):
        return None
    words = row.split(" ")
    if words[0] == "world":
        return world_of(words)
    if words[0] in QUESTIONS:
        return told_by(words, QUESTIONS[words[0]])
    return event_of(row)


def world_of(words):
    """Return the tuple (word, houses, hands) of a row that starts a new world, or None."""
    if len(words) < 3:
        return None
    houses = number_told(words[1])
    hands = [name_told(word) for word in words[2:]]
    if houses is None or None in hands:
        return None
    return (words[0], houses, hands)


def text_of_result(result):
    """Return the answer to an event: of a delivery the first word of the letter, otherwise a number or ok."""
    if result is None:
        return "ok"
    if isinstance(result, tuple):
        return result[0]
    return str(result)


def reply_rest(world, saying):
    """Deliver all letters; tell how many."""
    return str(world.rest())


def reply_letters(world, saying):
    """Tell how many letters are under way."""
    return str(len(world.letters()))


def reply_answer(world, saying):
    """Tell an answer."""
    value = world.answer(saying[1])
    if value is True:
        return "yes"
    if value is False:
        return "no"
    if isinstance(value, tuple):
        return listed(value, " ")
    return str(value)


def reply_slots(world, saying):
    """Tell the occupied slots of a house."""
    rows = world.slots(saying[1])
    return listed([f"{number} {state} {age} {part_text(purse)}" for number, state, age, purse in rows], ", ")


def reply_ahead(world, saying):
    """Tell the notes ahead of a variable."""
    return str(notes_ahead(world, saying[1], saying[2]))


def reply_names(world, saying):
    """Tell the names of the variables of a hand."""
    return listed(world.names(saying[1]), " ")


def listed(items, between):
    """Return strings in one row, or none."""
    if len(items) == 0:
        return "none"
    return between.join(items)


REPLIES = {
    "rest": reply_rest,
    "letters": reply_letters,
    "answer": reply_answer,
    "slots": reply_slots,
    "ahead": reply_ahead,
    "names": reply_names,
}

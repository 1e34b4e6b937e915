"""Histories: what was done in a world, as a list of events and as a text, and how it is done again."""

from trailparts.doing import do_event, has_form
from trailparts.errors import NoBox, NoDeed, NoHand, NoHistory, NoHouse, NoLetter, NoName, NoObject, NoText
from trailparts.reading import event_of
from trailparts.rows import rows_of
from trailparts.worlds import World


def played(houses, hands, events):
    """Return the world that a list of events makes."""
    world = World(houses, hands)
    if not isinstance(events, list):
        raise NoHistory(0)
    for place, event in enumerate(events):
        if not has_form(event):
            raise NoHistory(place)
        try:
            do_event(world, event)
        except (NoHand, NoName, NoDeed, NoHouse, NoObject, NoBox, NoLetter):
            raise NoHistory(place)
    return world


def history_text(events):
    """Return the text of a history."""
    return "\n".join(rows_of(events))


def read_history(text):
    """Return the list of the events that a text tells."""
    if not isinstance(text, str):
        raise NoText(-1)
    if text == "":
        return []
    events = [event_of(row) for row in text.split("\n")]
    if None in events:
        raise NoText(events.index(None))
    return events

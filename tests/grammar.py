"""The rows of histories as regular expressions: a second reading of them, made in another way."""

import re

NAME = "([a-z]{1,6})"
NUMBER = "(0|[1-9][0-9]{0,8})"
SUM = "(0|-?[1-9][0-9]{0,8}|-?1000000000)"
DEEDS = [
    "(get)", "(add) " + SUM, "(boxes)", "(take) " + NAME + " with " + NAME, "(clear) " + NAME,
    "(give) " + NAME + " into " + NAME, "(make) into " + NAME, "(clone) into " + NAME,
]
ROWS = [
    f"(make) {NAME} {NAME} {NUMBER}", f"(share) {NAME} {NAME} {NAME}", f"(drop) {NAME} {NAME}",
    f"(send) {NAME} {NAME} {NAME} {NAME}", f"(move) {NUMBER} {NUMBER} {NUMBER}", f"(tidy) {NUMBER} {NUMBER} {NAME}",
    "(look)", f"(deliver) {NUMBER}",
]
ASKS = [f"ask {NAME} {NAME} {deed}" for deed in DEEDS]


def value_told(word):
    return int(word) if re.fullmatch("-?[0-9]+", word) else word


def event_told(row):
    """Return the event that a row tells, or None."""
    for form in ROWS:
        match = re.fullmatch(form, row)
        if match:
            return tuple(value_told(word) for word in match.groups())
    for form in ASKS:
        match = re.fullmatch(form, row)
        if match:
            hand, name, *words = [value_told(word) for word in match.groups()]
            gift = words.pop() if words[0] == "take" else None
            target = words.pop() if words[0] in ("give", "make", "clone") else None
            return ("ask", hand, name, tuple(words), gift, target)
    return None


def events_told(text):
    """Return the events that a text tells, or the index of the first row that tells none."""
    if text == "":
        return []
    events = [event_told(row) for row in text.split("\n")]
    return events.index(None) if None in events else events

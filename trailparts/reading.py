"""Rows that are read: their words, and the events that they tell."""

from trailparts.deeds import WORDS_ALONE, is_complete
from trailparts.values import is_digits, is_name

# What follows the first word of each row of a history; asks have a form of their own.
FORMS = {
    "make": ("name", "name", "number"),
    "share": ("name", "name", "name"),
    "drop": ("name", "name"),
    "send": ("name", "name", "name", "name"),
    "move": ("number", "number", "number"),
    "tidy": ("number", "number", "name"),
    "look": (),
    "deliver": ("number",),
}
MOST = 999999999
MOST_DIGITS = 10


def event_of(row):
    """Return the event that a row tells, or None."""
    words = row.split(" ")
    if words[0] == "ask":
        return ask_of(words)
    if words[0] in FORMS:
        return told_by(words, FORMS[words[0]])
    return None


def told_by(words, form):
    """Return the tuple that words tell if what follows the first one has a given form, or None."""
    if len(words) != 1 + len(form):
        return None
    items = [item_of(word, kind) for word, kind in zip(words[1:], form)]
    if None in items:
        return None
    return tuple(words[:1] + items)


def item_of(word, kind):
    """Return the name or the number that a word tells, or None."""
    if kind == "number":
        return number_told(word)
    return name_told(word)


def name_told(word):
    """Return the name that a word tells, or None."""
    if is_name(word):
        return word
    return None


def number_told(word):
    """Return the house, number or place that a word tells, or None."""
    number = integer_told(word)
    if number is None or not 0 <= number <= MOST:
        return None
    return number


def integer_told(word):
    """Return the integer that a word tells, or None if it has more digits than a row may have."""
    digits = word.removeprefix("-")
    if not is_digits(digits) or len(digits) > MOST_DIGITS:
        return None
    # Leading zeros, and a sign before zero, do not come back.
    if str(int(word)) != word:
        return None
    return int(word)


def ask_of(words):
    """Return the ask that words tell, or None."""
    if len(words) < 4 or not is_name(words[1]) or not is_name(words[2]):
        return None
    deed = deed_of(words[3:])
    named = {"with": None, "into": None}
    rest = words[3 + len(deed):]
    # No deed takes both a gift and a target.
    if len(rest) == 2 and rest[0] in named and is_name(rest[1]):
        named[rest[0]] = rest[1]
    elif len(rest) > 0:
        return None
    gift = named["with"]
    target = named["into"]
    if not is_complete(deed, gift, target):
        return None
    return ("ask", words[1], words[2], deed, gift, target)


def deed_of(words):
    """Return what words begin with, as a deed; it may be none."""
    word = words[0]
    if word in WORDS_ALONE or len(words) == 1:
        return (word,)
    if word == "add":
        return (word, integer_told(words[1]))
    return (word, words[1])

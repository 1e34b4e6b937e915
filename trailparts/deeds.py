"""Deeds: what an object can be asked to do, as tuples."""

from trailparts.values import is_name, is_plain_int

MOST_ADDED = 10 ** 9
WORDS_ALONE = ("get", "boxes", "make", "clone")
WORDS_WITH_BOX = ("take", "clear", "give")
WORDS_WITH_TARGET = ("give", "make", "clone")


def is_deed(thing):
    """Return whether any value is a deed."""
    if not isinstance(thing, tuple) or len(thing) not in (1, 2):
        return False
    word = thing[0]
    if len(thing) == 1:
        return word in WORDS_ALONE
    if word == "add":
        return is_plain_int(thing[1]) and -MOST_ADDED <= thing[1] <= MOST_ADDED
    return word in WORDS_WITH_BOX and is_name(thing[1])


def takes_gift(deed):
    """Return whether a deed takes a gift."""
    return deed[0] == "take"


def takes_target(deed):
    """Return whether a deed takes a target."""
    return deed[0] in WORDS_WITH_TARGET


def is_complete(deed, gift, target):
    """Return whether any value is a deed that comes with just what it takes: None stands for no gift, no target."""
    if not is_deed(deed):
        return False
    return takes_gift(deed) == (gift is not None) and takes_target(deed) == (target is not None)

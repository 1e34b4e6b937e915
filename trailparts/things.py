"""Objects as they are in the one house, where each has its own place for ever."""


class Thing:
    """An object; its boxes hold things by their names."""

    def __init__(self, number):
        self.number = number
        self.boxes = {}


def one_get(thing, deed, gift):
    """Tell the number."""
    return (thing.number, None)


def one_add(thing, deed, gift):
    """Add to the number."""
    thing.number += deed[1]
    return (thing.number, None)


def one_boxes(thing, deed, gift):
    """Tell the names of the boxes."""
    return (tuple(sorted(thing.boxes)), None)


def one_take(thing, deed, gift):
    """Set a box to the gift."""
    existed = deed[1] in thing.boxes
    thing.boxes[deed[1]] = gift
    return (existed, None)


def one_clear(thing, deed, gift):
    """Remove a box."""
    existed = deed[1] in thing.boxes
    if existed:
        del thing.boxes[deed[1]]
    return (existed, None)


def one_give(thing, deed, gift):
    """Yield what is in a box."""
    return (deed[1] in thing.boxes, thing.boxes.get(deed[1]))


def one_make(thing, deed, gift):
    """Yield a new thing."""
    return (True, Thing(0))


def one_clone(thing, deed, gift):
    """Yield a new thing with the same number and the same in its boxes."""
    other = Thing(thing.number)
    other.boxes = dict(thing.boxes)
    return (True, other)


ONE_DEEDS = {
    "get": one_get,
    "add": one_add,
    "boxes": one_boxes,
    "take": one_take,
    "clear": one_clear,
    "give": one_give,
    "make": one_make,
    "clone": one_clone,
}


def do_deed(thing, deed, gift):
    """Let a thing do a deed; return the value and the yield, or None for no yield."""
    action = ONE_DEEDS[deed[0]]
    return action(thing, deed, gift)

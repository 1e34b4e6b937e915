"""Addresses: tuples (house, number, age, part) for a part of a slot."""

from trailparts.parts import half, plus


def split(address):
    """Return the address that the holder keeps, and the copy, with one half of the part each."""
    house, number, age, part = address
    less = half(part)
    return ((house, number, age, less), (house, number, age, less))


def updated(old, new):
    """Return what a setting with the old address holds after an update by the new one, and what goes back, or None."""
    house, number, age, part = old
    if new[2] > age:
        return (new, old)
    if new[2] < age:
        return (old, new)
    # Two addresses of the same object that have the same age are parts of the same slot.
    return ((house, number, age, plus(part, new[3])), None)

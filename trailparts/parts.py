"""Parts: exact weights from nothing to the whole, as tuples (top, bottom) for top / bottom."""

from trailparts.errors import NoPart, TooMuch
from trailparts.values import digits_of, is_digits, is_plain_int, number_of

NOTHING = (0, 1)
WHOLE = (1, 1)


def is_part(thing):
    """Return whether any value is a part."""
    if not isinstance(thing, tuple) or len(thing) != 2:
        return False
    top, bottom = thing
    if not is_plain_int(top) or not is_plain_int(bottom):
        return False
    if bottom < 1 or not is_power_of_two(bottom):
        return False
    # Over a power of 2, just the odd tops are in lowest terms.
    return 0 <= top <= bottom and (bottom == 1 or top & 1 == 1)


def half(part):
    """Return the half of a part that is not nothing."""
    if not is_part(part) or part[0] == 0:
        raise NoPart(part)
    top, bottom = part
    return (top, bottom * 2)


def plus(one, other):
    """Return the sum of two parts."""
    if not is_part(one):
        raise NoPart(one)
    if not is_part(other):
        raise NoPart(other)
    bottom = max(one[1], other[1])
    top = top_over(bottom, one) + top_over(bottom, other)
    if top > bottom:
        raise TooMuch(other)
    return in_lowest_terms(top, bottom)


def part_text(part):
    """Return the text of a part."""
    if not is_part(part):
        raise NoPart(part)
    top, bottom = part
    if bottom == 1:
        return digits_of(top)
    return f"{digits_of(top)}/{digits_of(bottom)}"


def read_part(text):
    """Return the part that has this text."""
    if not isinstance(text, str):
        raise NoPart(text)
    part = told_pair(text)
    # Many texts tell the same number; only the one that part_text gives is the text of the part.
    if not is_part(part) or part_text(part) != text:
        raise NoPart(text)
    return part


def is_power_of_two(number):
    """Return whether an integer from 1 on is a power of 2."""
    return number & (number - 1) == 0


def top_over(bottom, part):
    """Return the top of the same weight over another bottom, a power of 2 that is not below the part's own."""
    return part[0] << (bottom.bit_length() - part[1].bit_length())


def in_lowest_terms(top, bottom):
    """Return a weight over a power of 2 as a part."""
    # All that a number shares with a power of 2 is a power of 2: the lowest bit of the two.
    both = top | bottom
    shift = (both & -both).bit_length() - 1
    return (top >> shift, bottom >> shift)


def told_pair(text):
    """Return the top and the bottom that a string tells, or None if it does not consist of such integers."""
    top, slash, bottom = text.partition("/")
    if not slash:
        bottom = "1"
    if not is_digits(top) or not is_digits(bottom):
        return None
    return (number_of(top), number_of(bottom))

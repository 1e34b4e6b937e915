"""Plain values, as all modules see them: integers, names, and decimal digits."""

CHUNK = 64
CHUNK_BASE = 10 ** 64


def is_plain_int(thing):
    """Return whether any value is an integer other than True and False."""
    return isinstance(thing, int) and not isinstance(thing, bool)


def is_name(thing):
    """Return whether any value is a string of one to six letters from a to z."""
    if not isinstance(thing, str) or not 1 <= len(thing) <= 6:
        return False
    return thing.isascii() and thing.isalpha() and thing.islower()


def is_digits(text):
    """Return whether a string is one or more digits from 0 to 9."""
    return text.isascii() and text.isdigit()


def digits_of(number):
    """Return the decimal digits of an integer from 0 on, without leading zeros."""
    # In chunks, because Python refuses to turn very long integers into strings at once.
    rest = number
    chunks = []
    while rest >= CHUNK_BASE:
        rest, low = divmod(rest, CHUNK_BASE)
        chunks.append(str(low).zfill(CHUNK))
    chunks.append(str(rest))
    chunks.reverse()
    return "".join(chunks)


def number_of(digits):
    """Return the integer that decimal digits tell, however many they are."""
    # In chunks, because Python refuses to read very long strings of digits at once.
    width = (len(digits) + CHUNK - 1) // CHUNK * CHUNK
    padded = digits.zfill(width)
    number = 0
    for at in range(0, width, CHUNK):
        number = number * CHUNK_BASE + int(padded[at:at + CHUNK])
    return number

"""Values that several tests use."""

# One of each kind of "any value" that is neither a part nor a text.
OTHER_VALUES = [
    None, True, False, 0, 1, -1, 2, 10 ** 39, -10 ** 39,
    "", " ", "a", "abc", "0 ", "(1, 2)", "\n",
    [], [0, 1], [1, 2], [[]], {}, {0: 1}, {"top": 1, "bottom": 2}, {1: 2, 2: 4},
    (), (0,), (1,), ((0, 1),), (0, 1, 1), (1, 2, 4), ((0, 1), (1, 1)),
    (None, 1), (0, None), ("0", "1"), ("1", 2), (1, "2"), ([1], 2), (1, [2]), ((1,), 2), (1, (2,)), ({}, {}),
    [[[[[[[[1]]]]]]]], {"a": {"b": [(1, 2), None, "x"]}},
]

# Pairs that are no parts although Python takes some of them for equal to parts.
BOOLEAN_PAIRS = [
    (False, 1), (True, 1), (0, True), (1, True), (False, True), (True, True), (True, 2), (True, False), (False, False),
]

TOO_DEEP_FOR_STR = 20000


def powers_to(count):
    """Return the powers of 2 from 1 to 2 ** count."""
    return [2 ** k for k in range(count + 1)]

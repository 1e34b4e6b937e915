"""Point 2: what an integer and what a name is; and the decimal digits of integers of any length."""

import string
import unittest

from tests.samples import BOOLEAN_PAIRS, OTHER_VALUES
from trailparts.values import digits_of, is_digits, is_name, is_plain_int, number_of


class IntegerTest(unittest.TestCase):
    def test_integers(self):
        for number in [0, 1, -1, 2, 10 ** 39, -10 ** 39, 2 ** 4000]:
            self.assertIs(is_plain_int(number), True, number)

    def test_booleans_and_other_values_are_none(self):
        for thing in [True, False, None, "1", "", [1], (1,), {1: 1}, [], (), {}]:
            self.assertIs(is_plain_int(thing), False, thing)


class NameTest(unittest.TestCase):
    def test_one_to_six_letters(self):
        for name in ["a", "z", "ann", "bob", "abcdef", "uvwxyz", "with", "into", "none"]:
            self.assertIs(is_name(name), True, name)
        for letter in string.ascii_lowercase:
            self.assertIs(is_name(letter), True, letter)
            self.assertIs(is_name(letter * 6), True, letter)

    def test_lengths(self):
        for length in range(12):
            self.assertIs(is_name("a" * length), 1 <= length <= 6, length)
        self.assertIs(is_name("a" * 4000), False)

    def test_each_other_sign(self):
        signs = [chr(code) for code in range(256)] + ["\u0430", "\u00df", "\u01c5", "\uff41"]
        for sign in signs:
            expected = sign in string.ascii_lowercase
            for text in [sign, "a" + sign, sign + "a", "ab" + sign + "cd"]:
                self.assertIs(is_name(text), expected, repr(text))

    def test_other_values(self):
        for thing in [None, True, False, 0, 1, ["a"], ("a",), {"a": "a"}, [], (), {}, ("a", "b")] + BOOLEAN_PAIRS:
            self.assertIs(is_name(thing), False, thing)
        for thing in OTHER_VALUES:
            self.assertIs(is_name(thing), thing in ("a", "abc"), thing)


class DigitsTest(unittest.TestCase):
    def test_is_digits(self):
        for text in ["0", "1", "10", "007", "9" * 4000]:
            self.assertIs(is_digits(text), True, text)
        for text in ["", " ", "-1", "+1", "1 ", " 1", "1\n", "1_0", "1.0", "a", "0x1", "\u0661", "\u00b2"]:
            self.assertIs(is_digits(text), False, repr(text))

    def test_both_ways_as_python_does(self):
        numbers = [0, 1, 9, 10, 99, 2 ** 60, 10 ** 63, 3 * 10 ** 128, 10 ** 191 + 7, 2 ** 4000]
        for width in [63, 64, 65, 127, 128, 129]:
            numbers.extend([10 ** width - 1, 10 ** width, 10 ** width + 1])
        for number in numbers:
            self.assertEqual(digits_of(number), str(number))
            self.assertEqual(number_of(str(number)), number)

    def test_longer_than_python_converts_at_once(self):
        self.assertEqual(digits_of(10 ** 9000), "1" + "0" * 9000)
        self.assertEqual(number_of("1" + "0" * 9000), 10 ** 9000)
        self.assertEqual(number_of("9" * 9000), 10 ** 9000 - 1)


if __name__ == "__main__":
    unittest.main()

"""Points 2 and 4, with the interface of trailparts/parts.py."""

import copy
import random
import unittest
from fractions import Fraction
from math import gcd

from tests.samples import BOOLEAN_PAIRS, OTHER_VALUES, TOO_DEEP_FOR_STR, powers_to
from trailparts.errors import NoPart, TooMuch
from trailparts.parts import half, is_part, part_text, plus, read_part

HUGE = [2 ** 60, 2 ** 61, 2 ** 64, 2 ** 100, 2 ** 128, 2 ** 1000, 2 ** 5000]

# All parts with a bottom to 32, and some with greater ones.
SMALL_PARTS = [(0, 1), (1, 1)] + [(top, bottom) for bottom in [2, 4, 8, 16, 32] for top in range(1, bottom, 2)]
GREAT_PARTS = [(top, bottom) for bottom in HUGE for top in [1, 3, bottom // 2 - 1, bottom // 2 + 1, bottom - 3, bottom - 1]]
PARTS = SMALL_PARTS + GREAT_PARTS

NO_PAIRS = [
    (-1, 1), (-1, 2), (2, 1), (3, 2), (5, 4), (0, 2), (2, 2), (2, 4), (4, 4), (0, 4), (1, 3), (1, 6), (2, 3), (3, 3),
    (1, 0), (0, 0), (1, -1), (0, -1), (-1, -1), (1, -2), (-1, -2), (1, 2 ** 60 - 1), (1, 2 ** 60 + 1), (2, 2 ** 60),
    (2 ** 60 + 1, 2 ** 60), (2 ** 60, 2 ** 60), (-1, 2 ** 60), (0, 2 ** 60), (1, 3 * 2 ** 60), (10 ** 39, 1),
]
NO_PARTS = OTHER_VALUES + BOOLEAN_PAIRS + NO_PAIRS + ["0", "1", "1/2", "3/8"]


def value(part):
    return Fraction(part[0], part[1])


def as_part(fraction):
    return (fraction.numerator, fraction.denominator)


def same(one, other):
    """Return whether two values are equal with integers and booleans told apart."""
    if one.__class__ is not other.__class__ or one != other:
        return False
    if isinstance(one, dict):
        return same(list(one.items()), list(other.items()))
    if isinstance(one, (list, tuple)):
        return all(same(item, match) for item, match in zip(one, other))
    return True


class PartsCase(unittest.TestCase):
    def assert_part(self, got, expected):
        self.assertIs(got.__class__, tuple)
        self.assertEqual([item.__class__ for item in got], [int, int])
        self.assertEqual(got, expected)
        self.assertIs(is_part(got), True)

    def assert_raises_with(self, error, thing, function, *given):
        kept = copy.deepcopy(given)
        with self.assertRaises(error) as caught:
            function(*given)
        self.assertIs(caught.exception.__class__, error)
        self.assertIs(caught.exception.part, thing)
        self.assertTrue(same(given, kept))


class IsPartTest(PartsCase):
    def test_all_pairs_of_small_integers(self):
        powers = powers_to(10)
        for bottom in range(-40, 70):
            for top in range(-5, 75):
                expected = bottom in powers and 0 <= top <= bottom and gcd(top, bottom) == 1
                self.assertIs(is_part((top, bottom)), expected, (top, bottom))

    def test_at_and_near_powers_of_two(self):
        for power in powers_to(140)[1:] + HUGE:
            for bottom in [power - 1, power, power + 1, -power, power * 3]:
                for top in [-power, -1, 0, 1, 2, 3, power // 2, power - 2, power - 1, power, power + 1, 2 * power + 1]:
                    whole_power = bottom == power or (power == 2 and bottom == 1)
                    expected = whole_power and 0 <= top <= bottom and gcd(top, bottom) == 1
                    self.assertIs(is_part((top, bottom)), expected, (top, bottom))

    def test_nothing_and_the_whole(self):
        self.assertIs(is_part((0, 1)), True)
        self.assertIs(is_part((1, 1)), True)

    def test_booleans_never_count_as_integers(self):
        for thing in BOOLEAN_PAIRS:
            self.assertIs(is_part(thing), False, thing)
        for bottom in powers_to(70):
            self.assertIs(is_part((True, bottom)), False)
            self.assertIs(is_part((False, bottom)), False)

    def test_lists_and_tuples_of_other_lengths(self):
        for top, bottom in SMALL_PARTS:
            for thing in [[top, bottom], (top,), (bottom,), (top, bottom, bottom), (top, bottom, None), ((top, bottom),),
                          {top: bottom}, f"{top}/{bottom}", (str(top), str(bottom)), ([top], bottom), (top, [bottom])]:
                self.assertIs(is_part(thing), False, thing)

    def test_other_values(self):
        for thing in NO_PARTS:
            kept = copy.deepcopy(thing)
            self.assertIs(is_part(thing), False, thing)
            self.assertTrue(same(thing, kept))

    def test_parts(self):
        for part in PARTS:
            self.assertIs(is_part(part), True)


class HalfTest(PartsCase):
    def test_the_half_of_each_part(self):
        for part in PARTS:
            if part != (0, 1):
                self.assert_part(half(part), as_part(value(part) / 2))

    def test_a_long_row_of_halves(self):
        part = (1, 1)
        for count in range(1, 300):
            part = half(part)
            self.assert_part(part, (1, 2 ** count))

    def test_nothing_has_no_half(self):
        for nothing in [(0, 1), plus((0, 1), (0, 1)), read_part("0")]:
            self.assert_raises_with(NoPart, nothing, half, nothing)

    def test_what_is_not_a_part(self):
        for thing in NO_PARTS:
            self.assert_raises_with(NoPart, thing, half, thing)


class PlusTest(PartsCase):
    def assert_sum(self, one, other):
        total = value(one) + value(other)
        if total > 1:
            self.assert_raises_with(TooMuch, other, plus, one, other)
        else:
            self.assert_part(plus(one, other), as_part(total))

    def test_each_two_small_parts(self):
        for one in SMALL_PARTS:
            for other in SMALL_PARTS:
                self.assert_sum(one, other)

    def test_each_two_great_parts(self):
        for one in PARTS:
            for other in GREAT_PARTS:
                self.assert_sum(one, other)
                self.assert_sum(other, one)

    def test_just_the_whole_and_just_above(self):
        for bottom in powers_to(100)[1:] + HUGE:
            self.assert_part(plus((bottom - 1, bottom), (1, bottom)), (1, 1))
            self.assert_part(plus((1, bottom), (bottom - 1, bottom)), (1, 1))
            last = (1, bottom)
            self.assert_raises_with(TooMuch, last, plus, (1, 1), last)
            whole = (1, 1)
            self.assert_raises_with(TooMuch, whole, plus, (1, bottom), whole)

    def test_with_nothing(self):
        for part in PARTS:
            self.assert_part(plus(part, (0, 1)), part)
            self.assert_part(plus((0, 1), part), part)

    def test_the_first_of_two_wrong_values_is_told(self):
        for thing in NO_PARTS:
            for part in [(0, 1), (1, 1), (3, 8)]:
                self.assert_raises_with(NoPart, thing, plus, thing, part)
                self.assert_raises_with(NoPart, thing, plus, part, thing)
            for other in NO_PARTS:
                self.assert_raises_with(NoPart, thing, plus, thing, other)

    def test_arguments_by_name(self):
        self.assertEqual(plus(other=(1, 4), one=(1, 2)), (3, 4))
        self.assertEqual(half(part=(1, 4)), (1, 8))
        self.assertIs(is_part(thing=(1, 4)), True)
        self.assertEqual(part_text(part=(1, 4)), "1/4")
        self.assertEqual(read_part(text="1/4"), (1, 4))


class TextTest(PartsCase):
    def test_each_text_and_back(self):
        for part in PARTS:
            top, bottom = part
            expected = str(top) if bottom == 1 else str(top) + "/" + str(bottom)
            self.assertEqual(part_text(part), expected)
            self.assert_part(read_part(expected), part)

    def test_nothing_and_the_whole(self):
        self.assertEqual(part_text((0, 1)), "0")
        self.assertEqual(part_text((1, 1)), "1")
        self.assert_part(read_part("0"), (0, 1))
        self.assert_part(read_part("1"), (1, 1))

    def test_text_of_what_is_not_a_part(self):
        for thing in NO_PARTS:
            self.assert_raises_with(NoPart, thing, part_text, thing)

    def test_texts_of_no_part(self):
        texts = [
            "", " ", "\n", "/", "//", "2", "3", "10", "00", "01", "+0", "+1", "-0", "-1", " 0", "0 ", " 1", "1 ", "1\n",
            "0\n", "\n1", "0/1", "1/1", "0/2", "2/2", "2/4", "4/8", "4/4", "3/2", "5/4", "1/3", "2/3", "1/6", "1/0", "0/0",
            "1/", "/2", "1//2", "1/2/", "/1/2", "1/2/4", "1/2/2", "-1/2", "1/-2", "-1/-2", "+1/2", "1/+2", "01/2", "1/02",
            "001/002", "1 /2", "1/ 2", " 1/2", "1/2 ", "1 / 2", "1/2\n", "\n1/2", "1\n/2", "1/\n2", "1\\2", "1:2", "0.5",
            "1.0", "1e0", "1_0/1_6", "1/1_6", "0x1/2", "(1, 2)", "half", "a", "a/b", "1/b", "a/2", "True", "None", "1/2,1/4",
            "2/1", "1024/1", "1024", "1" * 4000, "1/" + "2" * 3998, "0" * 4000, "/" * 4000, " " * 4000,
            "1/" + str(2 ** 60 - 1), "1/" + str(2 ** 60 + 1), "2/" + str(2 ** 60), "0/" + str(2 ** 60),
            str(2 ** 60) + "/" + str(2 ** 60), str(2 ** 60 + 1) + "/" + str(2 ** 60), str(2 ** 60) + "/1",
        ]
        for text in texts:
            self.assert_raises_with(NoPart, text, read_part, text)

    def test_texts_with_digits_that_are_not_from_0_to_9(self):
        for text in ["\u0661", "\u0661/2", "1/\u0662", "\u00b9/2", "1/\u00b2", "\uff11", "\uff10"]:
            self.assert_raises_with(NoPart, text, read_part, text)

    def test_each_text_with_one_sign_more_or_less(self):
        texts = {part_text(part): part for part in SMALL_PARTS}
        texts.update({str(top) + "/" + str(bottom): (top, bottom) for bottom in [64, 128, 256, 512, 1024]
                      for top in range(1, bottom, 2)})
        signs = "0123456789/ -+_.a\n\\"
        for text in [part_text(part) for part in SMALL_PARTS]:
            changed = [text[:at] + sign + text[at:] for at in range(len(text) + 1) for sign in signs]
            changed.extend([text[:at] + sign + text[at + 1:] for at in range(len(text)) for sign in signs])
            changed.extend([text[:at] + text[at + 1:] for at in range(len(text))])
            for other in changed:
                if other in texts:
                    self.assert_part(read_part(other), texts[other])
                else:
                    self.assert_raises_with(NoPart, other, read_part, other)

    def test_values_that_are_no_strings(self):
        for thing in [thing for thing in NO_PARTS if not isinstance(thing, str)] + SMALL_PARTS:
            self.assert_raises_with(NoPart, thing, read_part, thing)


class ManyPartsTest(PartsCase):
    def pieces(self, count):
        """Return parts that come to the whole: the whole, halved again and again, and the last rest."""
        rest = (1, 1)
        given = []
        for step in range(count):
            rest = half(rest)
            given.append(rest)
        return given + [rest]

    def test_halved_many_times_and_added_in_other_orders(self):
        for count in [1, 2, 101, 250]:
            given = self.pieces(count)
            orders = [given, given[::-1], given[::2] + given[1::2]]
            shuffled = list(given)
            random.Random(count).shuffle(shuffled)
            orders.append(shuffled)
            for order in orders:
                total = (0, 1)
                for place, part in enumerate(order):
                    before = total
                    total = plus(total, part)
                    self.assert_part(total, as_part(value(before) + value(part)))
                    self.assertEqual(total == (1, 1), place == len(order) - 1)
                for part in [given[-1], given[0], (1, 1)]:
                    self.assert_raises_with(TooMuch, part, plus, total, part)
                self.assert_part(plus(total, (0, 1)), (1, 1))

    def test_a_tree_of_halves(self):
        chance = random.Random(4)
        parts = [(1, 1)]
        for step in range(400):
            part = half(parts.pop(chance.randrange(len(parts))))
            parts.extend([part, part])
        chance.shuffle(parts)
        while len(parts) > 1:
            one = parts.pop(chance.randrange(len(parts)))
            other = parts.pop(chance.randrange(len(parts)))
            parts.append(plus(one, other))
        self.assertEqual(parts, [(1, 1)])

    def test_parts_whose_digits_python_does_not_convert_at_once(self):
        part = (1, 1)
        for step in range(TOO_DEEP_FOR_STR):
            part = half(part)
        text = part_text(part)
        self.assertTrue(text.startswith("1/"))
        self.assertGreater(len(text), 4300)
        self.assert_part(read_part(text), part)
        rest = (part[1] - 1, part[1])
        self.assert_part(read_part(part_text(rest)), rest)
        self.assert_part(plus(rest, part), (1, 1))
        self.assert_raises_with(TooMuch, part, plus, (1, 1), part)
        for wrong in ["0" + text, text + "0", text + "\n", text[:-1]]:
            self.assert_raises_with(NoPart, wrong, read_part, wrong)


class ExamplesTest(unittest.TestCase):
    def test_the_examples_of_the_document(self):
        self.assertIs(is_part((2, 4)), False)
        self.assertEqual(half((3, 4)), (3, 8))
        self.assertEqual(plus((1, 4), (1, 4)), (1, 2))
        self.assertEqual(part_text((3, 8)), "3/8")
        self.assertEqual(read_part("1"), (1, 1))


if __name__ == "__main__":
    unittest.main()

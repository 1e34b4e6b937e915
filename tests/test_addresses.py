"""Points 6 and 7, with the interface of trailparts/addresses.py."""

import copy
import unittest
from fractions import Fraction

from trailparts.addresses import split, updated
from trailparts.parts import is_part

PARTS = [(1, 1), (1, 2), (3, 4), (1, 8), (7, 8), (2 ** 60 - 1, 2 ** 60), (1, 2 ** 200), (2 ** 200 - 1, 2 ** 200)]
SLOTS = [(0, 0), (0, 3), (5, 0), (5, 17)]
AGES = [0, 1, 2, 30]


def added(one, other):
    total = Fraction(*one) + Fraction(*other)
    return (total.numerator, total.denominator)


class AddressesCase(unittest.TestCase):
    def assert_address(self, address, house, number, age, part):
        self.assertIs(address.__class__, tuple)
        self.assertEqual([item.__class__ for item in address], [int, int, int, tuple])
        self.assertEqual(address, (house, number, age, part))
        self.assertTrue(is_part(address[3]))


class SplitTest(AddressesCase):
    def test_both_have_half_of_the_part_and_the_rest_is_unchanged(self):
        for house, number in SLOTS:
            for age in AGES:
                for top, bottom in PARTS:
                    address = (house, number, age, (top, bottom))
                    pair = split(address)
                    self.assertIs(pair.__class__, tuple)
                    kept, given = pair
                    self.assert_address(kept, house, number, age, (top, bottom * 2))
                    self.assert_address(given, house, number, age, (top, bottom * 2))
                    self.assertEqual(address, (house, number, age, (top, bottom)))

    def test_split_many_times_and_added_again(self):
        kept = (1, 2, 3, (1, 1))
        copies = []
        for step in range(150):
            kept, given = split(kept)
            copies.append(given)
        for given in copies[::2] + copies[1::2]:
            kept, back = updated(kept, given)
            self.assertIsNone(back)
        self.assert_address(kept, 1, 2, 3, (1, 1))


class UpdatedTest(AddressesCase):
    def assert_updated(self, old, new, held, back):
        before = copy.deepcopy((old, new))
        pair = updated(old, new)
        self.assertIs(pair.__class__, tuple)
        self.assertEqual(pair, (held, back))
        self.assertEqual((old, new), before)
        self.assert_address(pair[0], *held)
        if back is not None:
            self.assert_address(pair[1], *back)

    def test_a_greater_age_takes_the_place(self):
        for part in PARTS:
            for other in PARTS:
                for age in AGES:
                    for more in [1, 2, 9]:
                        old = (0, 3, age, part)
                        new = (1, 0, age + more, other)
                        self.assert_updated(old, new, new, old)

    def test_a_lesser_age_goes_back(self):
        for part in PARTS:
            for other in PARTS:
                for age in AGES:
                    for more in [1, 2, 9]:
                        old = (1, 0, age + more, part)
                        new = (0, 3, age, other)
                        self.assert_updated(old, new, old, new)

    def test_of_an_equal_age_the_parts_are_added(self):
        for house, number in SLOTS:
            for age in AGES:
                for part in PARTS:
                    for other in PARTS:
                        if Fraction(*part) + Fraction(*other) <= 1:
                            held = (house, number, age, added(part, other))
                            self.assert_updated((house, number, age, part), (house, number, age, other), held, None)

    def test_an_object_that_came_back_to_the_same_slot(self):
        old = (0, 0, 2, (1, 2))
        new = (0, 0, 4, (1, 2))
        self.assert_updated(old, new, new, old)
        self.assert_updated(new, old, new, old)

    def test_arguments_by_name(self):
        self.assertEqual(split(address=(0, 0, 0, (1, 1))), ((0, 0, 0, (1, 2)), (0, 0, 0, (1, 2))))
        self.assertEqual(updated(new=(0, 0, 1, (1, 1)), old=(0, 1, 0, (1, 1))), ((0, 0, 1, (1, 1)), (0, 1, 0, (1, 1))))


class ExamplesTest(unittest.TestCase):
    def test_the_examples_of_the_document(self):
        self.assertEqual(split((0, 3, 2, (1, 2))), ((0, 3, 2, (1, 4)), (0, 3, 2, (1, 4))))
        self.assertEqual(updated((0, 3, 2, (1, 2)), (1, 0, 3, (1, 4))), ((1, 0, 3, (1, 4)), (0, 3, 2, (1, 2))))


if __name__ == "__main__":
    unittest.main()

"""The interface of trailparts/errors.py."""

import inspect
import unittest

from trailparts import errors

# The classes in the order of the document, with their bases and fields.
LISTED = [
    ("NoPart", ArithmeticError, ["part"]),
    ("TooMuch", OverflowError, ["part"]),
    ("NoDeed", ValueError, ["deed"]),
    ("NoText", ValueError, ["row"]),
    ("NoHistory", ValueError, ["place"]),
    ("NoLog", ValueError, ["place"]),
    ("NoSaying", ValueError, []),
    ("NoHand", KeyError, ["hand"]),
    ("NoName", KeyError, ["name"]),
    ("NoBox", KeyError, ["box"]),
    ("NoHouse", IndexError, ["house"]),
    ("NoSlot", IndexError, ["number"]),
    ("NoLetter", IndexError, ["place"]),
    ("NoObject", LookupError, ["number"]),
    ("NoTicket", LookupError, ["ticket"]),
    ("NotYet", RuntimeError, ["ticket"]),
    ("Busy", RuntimeError, []),
    ("NoWorld", RuntimeError, []),
]

FIELD_VALUES = [None, True, False, 0, 1, -1, "", "ann", (1, 2), [1], {"a": 1}, ()]


class ErrorsTest(unittest.TestCase):
    def test_the_module_defines_just_the_listed_classes(self):
        classes = [name for name, thing in vars(errors).items() if inspect.isclass(thing)]
        self.assertEqual(sorted(classes), sorted(name for name, base, fields in LISTED))
        for name, base, fields in LISTED:
            self.assertEqual(getattr(errors, name).__module__, "trailparts.errors")

    def test_each_is_a_direct_subclass_of_its_base(self):
        for name, base, fields in LISTED:
            self.assertEqual(getattr(errors, name).__bases__, (base,), name)

    def test_none_is_a_subclass_of_another_one(self):
        for name, base, fields in LISTED:
            for other, other_base, other_fields in LISTED:
                if name != other:
                    self.assertFalse(issubclass(getattr(errors, name), getattr(errors, other)), (name, other))

    def test_the_fields_are_the_arguments_in_their_order(self):
        for name, base, fields in LISTED:
            for value in FIELD_VALUES:
                values = [(value, place) for place in range(len(fields))]
                by_place = getattr(errors, name)(*values)
                by_name = getattr(errors, name)(**dict(zip(fields, values)))
                self.assertEqual(list(vars(by_place)), fields, name)
                self.assertEqual(list(vars(by_name)), fields, name)
                for field, given in zip(fields, values):
                    self.assertIs(getattr(by_place, field), given, name)
                    self.assertIs(getattr(by_name, field), given, name)

    def test_an_argument_is_needed_for_each_field(self):
        for name, base, fields in LISTED:
            if fields:
                with self.assertRaises(TypeError):
                    getattr(errors, name)()
                with self.assertRaises(TypeError):
                    getattr(errors, name)(1, 2)

    def test_each_is_caught_by_its_base(self):
        for name, base, fields in LISTED:
            with self.assertRaises(base):
                raise getattr(errors, name)(*fields)

    def test_shown_with_the_fields(self):
        self.assertEqual(repr(errors.NoTicket(3)), "NoTicket(3)")
        self.assertEqual(repr(errors.NoLog(0)), "NoLog(0)")
        self.assertEqual(repr(errors.NoWorld()), "NoWorld()")


if __name__ == "__main__":
    unittest.main()

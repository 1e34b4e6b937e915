"""The interface in general: names and arguments as written, each defined in the file under which it is listed."""

import importlib
import inspect
import unittest

from trailparts.worlds import World

FUNCTIONS = {
    "trailparts.parts": {
        "is_part": "(thing)",
        "half": "(part)",
        "plus": "(one, other)",
        "part_text": "(part)",
        "read_part": "(text)",
    },
    "trailparts.addresses": {
        "split": "(address)",
        "updated": "(old, new)",
    },
    "trailparts.deeds": {
        "is_deed": "(thing)",
        "takes_gift": "(deed)",
        "takes_target": "(deed)",
    },
    "trailparts.trails": {
        "trail_from": "(world, house, number)",
        "notes_ahead": "(world, hand, name)",
        "notes_passed": "(world, ticket)",
    },
    "trailparts.onehouse": {
        "as_if": "(hands, log)",
    },
}

METHODS = {
    "__init__": "(self, houses, hands)",
    "__len__": "(self)",
    "__repr__": "(self)",
    "__str__": "(self)",
    "__eq__": "(self, other)",
    "make": "(self, hand, name, house)",
    "ask": "(self, hand, name, deed, *, gift=None, target=None)",
    "share": "(self, hand, name, new)",
    "drop": "(self, hand, name)",
    "send": "(self, hand, name, to, new)",
    "move": "(self, house, number, to)",
    "tidy": "(self, house, number, box)",
    "look": "(self)",
    "letters": "(self)",
    "deliver": "(self, place=0)",
    "rest": "(self, *, by=None)",
    "answer": "(self, ticket)",
    "names": "(self, hand)",
    "address": "(self, hand, name)",
    "slots": "(self, house)",
    "inside": "(self, house, number)",
    "log": "(self)",
    "history": "(self)",
    "trial": "(self, function)",
}


class InterfaceTest(unittest.TestCase):
    def test_each_function_stands_in_its_file_with_its_arguments(self):
        for place, functions in FUNCTIONS.items():
            module = importlib.import_module(place)
            for name, arguments in functions.items():
                function = getattr(module, name)
                self.assertTrue(inspect.isfunction(function), name)
                self.assertEqual((function.__module__, function.__name__), (place, name))
                self.assertEqual(str(inspect.signature(function)), arguments, name)

    def test_each_method_of_world_stands_in_the_class_itself(self):
        self.assertEqual((World.__module__, World.__name__), ("trailparts.worlds", "World"))
        for name, arguments in METHODS.items():
            self.assertIn(name, vars(World))
            self.assertTrue(inspect.isfunction(vars(World)[name]), name)
            self.assertEqual(str(inspect.signature(vars(World)[name])), arguments, name)


if __name__ == "__main__":
    unittest.main()

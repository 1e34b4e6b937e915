"""The interface in general: names and arguments as written, each defined in the file under which it is listed."""

import importlib
import inspect
import unittest

from trailparts.desk import Desk
from trailparts.worlds import World

FUNCTIONS = {
    "trailparts.parts": {
        "is_part": "(thing)",
        "half": "(part)",
        "plus": "(one, other)",
        "part_text": "(part)",
        "read_part": "(text)",
    },
    "trailparts.addresses": {
        "split": "(address)",
        "updated": "(old, new)",
    },
    "trailparts.deeds": {
        "is_deed": "(thing)",
        "takes_gift": "(deed)",
        "takes_target": "(deed)",
    },
    "trailparts.trails": {
        "trail_from": "(world, house, number)",
        "notes_ahead": "(world, hand, name)",
        "notes_passed": "(world, ticket)",
    },
    "trailparts.onehouse": {
        "as_if": "(hands, log)",
    },
    "trailparts.weights": {
        "holders": "(world, house, number)",
    },
    "trailparts.papers": {
        "paper_of": "(world, house, number)",
        "holds": "(world, house, number, paper)",
    },
    "trailparts.histories": {
        "played": "(houses, hands, events)",
        "history_text": "(events)",
        "read_history": "(text)",
    },
}

WORLD_METHODS = {
    "__init__": "(self, houses, hands)",
    "__len__": "(self)",
    "__repr__": "(self)",
    "__str__": "(self)",
    "__eq__": "(self, other)",
    "make": "(self, hand, name, house)",
    "ask": "(self, hand, name, deed, *, gift=None, target=None)",
    "share": "(self, hand, name, new)",
    "drop": "(self, hand, name)",
    "send": "(self, hand, name, to, new)",
    "move": "(self, house, number, to)",
    "tidy": "(self, house, number, box)",
    "look": "(self)",
    "letters": "(self)",
    "deliver": "(self, place=0)",
    "rest": "(self, *, by=None)",
    "answer": "(self, ticket)",
    "names": "(self, hand)",
    "address": "(self, hand, name)",
    "slots": "(self, house)",
    "inside": "(self, house, number)",
    "log": "(self)",
    "history": "(self)",
    "trial": "(self, function)",
}

DESK_METHODS = {
    "__init__": "(self)",
    "say": "(self, row)",
}


class InterfaceTest(unittest.TestCase):
    def test_each_function_stands_in_its_file_with_its_arguments(self):
        for place, functions in FUNCTIONS.items():
            module = importlib.import_module(place)
            for name, arguments in functions.items():
                function = getattr(module, name)
                self.assertTrue(inspect.isfunction(function), name)
                self.assertEqual((function.__module__, function.__name__), (place, name))
                self.assertEqual(str(inspect.signature(function)), arguments, name)

    def test_each_method_stands_in_the_class_itself(self):
        for kind, place, methods in [(World, "trailparts.worlds", WORLD_METHODS), (Desk, "trailparts.desk", DESK_METHODS)]:
            self.assertEqual(kind.__module__, place)
            for name, arguments in methods.items():
                self.assertIn(name, vars(kind))
                self.assertTrue(inspect.isfunction(vars(kind)[name]), name)
                self.assertEqual(str(inspect.signature(vars(kind)[name])), arguments, name)

    def test_the_names_of_the_classes(self):
        self.assertEqual([World.__name__, Desk.__name__], ["World", "Desk"])


if __name__ == "__main__":
    unittest.main()

"""The interface in general: names and arguments as written, each defined in the file under which it is listed."""

import importlib
import inspect
import unittest

FUNCTIONS = {
    "trailparts.parts": {
        "is_part": "(thing)",
        "half": "(part)",
        "plus": "(one, other)",
        "part_text": "(part)",
        "read_part": "(text)",
    },
    "trailparts.addresses": {
        "split": "(address)",
        "updated": "(old, new)",
    },
}


class InterfaceTest(unittest.TestCase):
    def test_each_function_stands_in_its_file_with_its_arguments(self):
        for place, functions in FUNCTIONS.items():
            module = importlib.import_module(place)
            for name, arguments in functions.items():
                function = getattr(module, name)
                self.assertTrue(inspect.isfunction(function), name)
                self.assertEqual((function.__module__, function.__name__), (place, name))
                self.assertEqual(str(inspect.signature(function)), arguments, name)


if __name__ == "__main__":
    unittest.main()

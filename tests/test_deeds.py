"""Point 8, with the interface of trailparts/deeds.py."""

import string
import unittest

from tests.cases import NO_DEEDS, NO_NAMES
from tests.samples import BOOLEAN_PAIRS, OTHER_VALUES
from trailparts.deeds import is_deed, takes_gift, takes_target

ALONE = [("get",), ("boxes",), ("make",), ("clone",)]
ADDED = [0, 1, -1, 5, 10 ** 9 - 1, 10 ** 9, -10 ** 9, 1 - 10 ** 9]
NAMES = ["a", "b", "z", "abcdef", "with", "into", "get"]
WITH_BOX = [(word, name) for word in ["take", "clear", "give"] for name in NAMES]
DEEDS = ALONE + [("add", number) for number in ADDED] + WITH_BOX


class IsDeedTest(unittest.TestCase):
    def test_deeds_of_all_words(self):
        for deed in DEEDS:
            self.assertIs(is_deed(deed), True, deed)

    def test_values_that_are_just_no_deeds(self):
        for thing in NO_DEEDS:
            self.assertIs(is_deed(thing), False, thing)

    def test_any_values(self):
        for thing in OTHER_VALUES + BOOLEAN_PAIRS + NO_NAMES:
            self.assertIs(is_deed(thing), False, thing)
            self.assertIs(is_deed((thing,)), False, thing)
            self.assertIs(is_deed((thing, "b")), False, thing)

    def test_lists_are_no_deeds(self):
        for deed in DEEDS:
            self.assertIs(is_deed(list(deed)), False, deed)

    def test_one_item_more_or_less(self):
        for deed in DEEDS:
            for more in [None, 0, 1, True, "a", "x", deed, ()]:
                self.assertIs(is_deed(deed + (more,)), False, (deed, more))
                self.assertIs(is_deed((more,) + deed), False, (deed, more))
            if len(deed) == 2:
                self.assertIs(is_deed(deed[:1]), False, deed)
                self.assertIs(is_deed(deed[1:]), deed[1:] in ALONE, deed)

    def test_other_words(self):
        words = ["", "got", "gets", "ge", "Get", "GET", " get", "get ", "get\n", "set", "ask", "addd", "box", "makes"]
        for word in words:
            for more in [(), ("b",), (5,), ("b", "b")]:
                self.assertIs(is_deed((word,) + more), False, (word, more))

    def test_boxes_must_be_names(self):
        for word in ["take", "clear", "give"]:
            for thing in NO_NAMES:
                self.assertIs(is_deed((word, thing)), False, (word, thing))
            for sign in map(chr, range(128)):
                self.assertIs(is_deed((word, sign)), sign in string.ascii_lowercase, (word, sign))
            for length in range(9):
                self.assertIs(is_deed((word, "b" * length)), 1 <= length <= 6)

    def test_what_is_added(self):
        limit = 10 ** 9
        for number in [limit + 1, -limit - 1, limit + 2, 2 * limit, -2 * limit, 10 ** 39, -10 ** 39]:
            self.assertIs(is_deed(("add", number)), False, number)
        for thing in [True, False, None, "5", "", "b", [5], (5,), {}, [], ()]:
            self.assertIs(is_deed(("add", thing)), False, thing)


class TakesTest(unittest.TestCase):
    def test_takes_gift(self):
        for deed in DEEDS:
            self.assertIs(takes_gift(deed), deed[0] == "take", deed)

    def test_takes_target(self):
        for deed in DEEDS:
            self.assertIs(takes_target(deed), deed[0] in ("give", "make", "clone"), deed)

    def test_arguments_by_name(self):
        self.assertIs(is_deed(thing=("get",)), True)
        self.assertIs(takes_gift(deed=("get",)), False)
        self.assertIs(takes_target(deed=("make",)), True)

    def test_the_examples_of_the_document(self):
        self.assertIs(is_deed(("add", True)), False)
        self.assertIs(takes_gift(("take", "b")), True)
        self.assertIs(takes_target(("take", "b")), False)


if __name__ == "__main__":
    unittest.main()

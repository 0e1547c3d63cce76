"""The section twicewashed/errors.py of the interface."""

import unittest

from twicewashed import errors
from twicewashed.errors import Clash, Stopped, WashError

NAMES = (
    "BadLength", "NoShare", "TooOften", "BadShares", "Mismatch", "BadBolt", "NoBolt", "NoPiece",
    "NoSide", "NoWash", "Stopped", "NoSlot", "Full", "Clash", "BadEase",
)


def made(kind, **parts):
    """An error with these attributes, or None: DOC.md leaves open how the program itself makes one."""
    try:
        return kind(**parts)
    except TypeError:
        return None


class ErrorClasses(unittest.TestCase):
    def test_base_class_is_a_value_error(self):
        self.assertEqual(WashError.__bases__, (ValueError,))

    def test_there_are_fifteen_names(self):
        self.assertEqual(len(set(NAMES)), 15)

    def test_each_class_is_derived_directly_from_the_base_class(self):
        for name in NAMES:
            with self.subTest(name=name):
                self.assertEqual(getattr(errors, name).__bases__, (WashError,))

    def test_each_class_is_defined_in_this_file(self):
        for name in ("WashError",) + NAMES:
            with self.subTest(name=name):
                found = getattr(errors, name)
                self.assertEqual((found.__name__, found.__module__), (name, "twicewashed.errors"))

    def test_the_classes_are_all_different(self):
        self.assertEqual(len({getattr(errors, name) for name in NAMES}), 15)


class ErrorAttributes(unittest.TestCase):
    def test_stopped_tells_the_index(self):
        error = made(Stopped, at=3)
        if error is None:
            self.skipTest("this program makes the error in another way")
        self.assertEqual(error.at, 3)
        self.assertIsInstance(str(error), str)

    def test_clash_tells_the_slot_and_the_numbers(self):
        error = made(Clash, slot=5, findings=(1, 0, 0, 2, 0, 256), shares=(3, 0))
        if error is None:
            self.skipTest("this program makes the error in another way")
        self.assertEqual(error.slot, 5)
        self.assertEqual(error.findings, (1, 0, 0, 2, 0, 256))
        self.assertEqual(error.shares, (3, 0))
        self.assertIsInstance(str(error), str)


if __name__ == "__main__":
    unittest.main()

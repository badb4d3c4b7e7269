"""Point 4 and bothcome/errors.py."""

import unittest

from bothcome import errors

NAMES = [
    "InvalidTree", "InvalidPoint", "InvalidCrew", "InvalidPlan", "InvalidPlaces", "InvalidFactor",
    "TooSmall", "TooMany", "NothingToUndo", "InvalidText", "InvalidCommand", "NotReady",
]


class ErrorsTest(unittest.TestCase):
    def test_the_base_is_directly_a_value_error(self):
        self.assertEqual(errors.WatchError.__bases__, (ValueError,))

    def test_each_class_is_directly_under_the_base(self):
        for name in NAMES:
            with self.subTest(name):
                self.assertEqual(getattr(errors, name).__bases__, (errors.WatchError,))

    def test_no_class_stands_under_another_one(self):
        for name in NAMES:
            for other in NAMES:
                if name != other:
                    with self.subTest(name, other=other):
                        self.assertFalse(issubclass(getattr(errors, name), getattr(errors, other)))

    def test_each_is_created_with_one_text(self):
        for name in NAMES + ["WatchError"]:
            with self.subTest(name):
                error = getattr(errors, name)("what is wrong")
                self.assertEqual(str(error), "what is wrong")
                self.assertEqual(error.args, ("what is wrong",))

    def test_each_is_caught_by_its_own_name_the_base_and_value_error(self):
        for name in NAMES:
            for catcher in (getattr(errors, name), errors.WatchError, ValueError):
                with self.subTest(name, catcher=catcher), self.assertRaises(catcher):
                    raise getattr(errors, name)("text")

    def test_the_names_and_the_file_are_those_of_the_interface(self):
        for name in NAMES + ["WatchError"]:
            with self.subTest(name):
                self.assertEqual(getattr(errors, name).__name__, name)
                self.assertEqual(getattr(errors, name).__module__, "bothcome.errors")


if __name__ == "__main__":
    unittest.main()

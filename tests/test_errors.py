"""The refusals of the interface."""

import unittest

from gluework import errors

NAMES = [
    "NoWeb", "NoRule", "NoMatch", "Loose", "Barred", "NoNames", "HasBars", "NoOverlap", "Open", "NoFall",
    "NoDeed", "NoText", "NoRow",
]


class Errors(unittest.TestCase):
    def test_glue_error_stands_straight_under_value_error(self):
        self.assertEqual((ValueError,), errors.GlueError.__bases__)

    def test_each_stands_straight_under_glue_error(self):
        for name in NAMES:
            with self.subTest(name):
                self.assertEqual((errors.GlueError,), getattr(errors, name).__bases__)

    def test_none_stands_under_another_one(self):
        for name in NAMES:
            for other in NAMES:
                self.assertEqual(name == other, issubclass(getattr(errors, name), getattr(errors, other)))

    def test_there_are_no_others(self):
        held = [name for name, thing in vars(errors).items() if isinstance(thing, type)]
        self.assertEqual(sorted(NAMES + ["GlueError"]), sorted(held))

    def test_each_is_taken_as_glue_error_and_as_value_error(self):
        for name in NAMES:
            for above in (errors.GlueError, ValueError):
                with self.assertRaises(above):
                    raise getattr(errors, name)("words")


if __name__ == "__main__":
    unittest.main()

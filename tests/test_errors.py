import unittest

from whence import errors
from whence.errors import WhenceError

NAMES = ["NoWay", "NoMark", "NoName", "NoColumn", "NoRow", "NoTable", "NoFit", "NoNumber", "NoPlace", "NoRule",
         "NoAnswer", "Twice"]


class Refusals(unittest.TestCase):
    def test_the_base_stands_under_value_error(self):
        self.assertEqual(WhenceError.__bases__, (ValueError,))

    def test_all_stand_straight_under_the_base(self):
        for name in NAMES:
            self.assertEqual(getattr(errors, name).__bases__, (WhenceError,), name)

    def test_none_stands_under_another_one(self):
        for name in NAMES:
            for other in NAMES:
                under = issubclass(getattr(errors, name), getattr(errors, other))
                self.assertEqual(under, name == other, (name, other))

    def test_each_is_taken_as_any_refusal(self):
        for name in NAMES:
            for wider in (WhenceError, ValueError):
                with self.assertRaises(wider):
                    raise getattr(errors, name)("words")

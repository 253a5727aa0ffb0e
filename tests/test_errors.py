"""The classes of nearplace/errors.py."""

import unittest

from nearplace import errors

NAMES = [
    "NoOrder", "NoReach", "NoNumber", "NoKeep", "NoStand", "NoRolls", "NoShare", "NoWishes", "NoWord", "TooMany",
    "NoText", "NoAsk",
]


class Errors(unittest.TestCase):
    def test_any_refusal_stands_under_value_error(self):
        self.assertEqual((ValueError,), errors.PlaceError.__bases__)

    def test_each_stands_straight_under_place_error(self):
        for name in NAMES:
            with self.subTest(name=name):
                self.assertEqual((errors.PlaceError,), getattr(errors, name).__bases__)
                self.assertEqual(name, getattr(errors, name).__name__)

    def test_none_stands_under_another(self):
        kinds = [getattr(errors, name) for name in NAMES]
        self.assertEqual(12, len({id(kind) for kind in kinds}))
        for one in kinds:
            self.assertEqual([one], [kind for kind in kinds if issubclass(kind, one)])


if __name__ == "__main__":
    unittest.main()

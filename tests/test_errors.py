"""The refusals: pilerun/errors.py."""

import unittest

from pilerun import errors

NAMES = ("BadMachine", "BadSpot", "BadRule", "TooMany", "NoArrow", "NoRun", "TooLong")


class ErrorsTest(unittest.TestCase):
    def test_any_refusal_is_a_value_error(self):
        self.assertEqual(errors.PileError.__bases__, (ValueError,))

    def test_each_stands_straight_under_pile_error(self):
        for name in NAMES:
            with self.subTest(name):
                self.assertEqual(getattr(errors, name).__bases__, (errors.PileError,))

    def test_each_is_another_class(self):
        self.assertEqual(len({getattr(errors, name) for name in NAMES}), len(NAMES))

    def test_each_is_defined_in_its_file(self):
        for name in NAMES + ("PileError",):
            with self.subTest(name):
                self.assertEqual(getattr(errors, name).__module__, "pilerun.errors")
                self.assertEqual(getattr(errors, name).__name__, name)

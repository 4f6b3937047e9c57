import unittest

import restward.errors as errors
from helper import REFUSALS


class Refusals(unittest.TestCase):
    def test_base_is_straight_under_value_error(self):
        self.assertEqual(errors.RestError.__bases__, (ValueError,))

    def test_each_refusal_is_straight_under_the_base(self):
        for name in REFUSALS:
            self.assertEqual(getattr(errors, name).__bases__, (errors.RestError,), name)

    def test_no_refusal_is_under_another(self):
        for name in REFUSALS:
            for other in REFUSALS:
                if name != other:
                    self.assertFalse(issubclass(getattr(errors, name), getattr(errors, other)), (name, other))

    def test_each_is_taken_as_a_value_error(self):
        for name in REFUSALS:
            with self.assertRaises(ValueError):
                raise getattr(errors, name)("why")

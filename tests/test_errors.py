"""Tests of twodivisions.errors."""

import unittest

from tests.samples import ERRORS
from twodivisions import errors

FIVE = [ValueError, LookupError, ArithmeticError, RuntimeError, OverflowError]


class ErrorsTest(unittest.TestCase):
    def test_each_is_below_just_one_of_five(self):
        for name, (base, _) in ERRORS.items():
            above = [OverflowError, ArithmeticError] if base is OverflowError else [base]
            error = getattr(errors, name)
            self.assertEqual([one for one in FIVE if issubclass(error, one)], [one for one in FIVE if one in above])

    def test_none_is_below_another(self):
        found = [getattr(errors, name) for name in ERRORS]
        for one in found:
            self.assertEqual([other for other in found if issubclass(one, other)], [one])

    def test_each_is_defined_there(self):
        for name in ERRORS:
            error = getattr(errors, name)
            self.assertEqual((error.__module__, error.__name__), ("twodivisions.errors", name))

    def test_fields_are_the_values_by_position(self):
        for name, (_, fields) in ERRORS.items():
            for make in [object, list, lambda: None, lambda: True, lambda: "text", lambda: (1, [2])]:
                values = [make() for _ in fields]
                error = getattr(errors, name)(*values)
                for field, value in zip(fields, values):
                    self.assertIs(getattr(error, field), value)

    def test_fields_are_the_values_by_name(self):
        for name, (_, fields) in ERRORS.items():
            values = {field: [field] for field in fields}
            error = getattr(errors, name)(**values)
            for field in fields:
                self.assertIs(getattr(error, field), values[field])

    def test_each_can_be_raised(self):
        for name, (base, fields) in ERRORS.items():
            with self.assertRaises(base):
                raise getattr(errors, name)(*fields)

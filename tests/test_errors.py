"""The errors: their classes, and the values that they keep."""

import copy
import unittest

from sample_values import any_values
from stockcounts import errors

ATTRIBUTES = {
    "BadRecord": "value",
    "BadCost": "value",
    "BadText": "value",
    "BadCommand": "command",
    "UnknownId": "ident",
    "TakenId": "ident",
    "UnknownPlace": "place",
    "BadNumber": "value",
    "TooMany": "count",
    "Contradiction": "prices",
    "NothingToDo": "action",
}


class ErrorsTest(unittest.TestCase):

    def test_stock_error_is_a_value_error(self):
        self.assertEqual(errors.StockError.__bases__, (ValueError,))

    def test_each_is_a_direct_subclass(self):
        for name in ATTRIBUTES:
            with self.subTest(name=name):
                self.assertEqual(getattr(errors, name).__bases__, (errors.StockError,))

    def test_each_stands_in_its_file(self):
        for name in ["StockError", *ATTRIBUTES]:
            with self.subTest(name=name):
                self.assertEqual(getattr(errors, name).__module__, "stockcounts.errors")

    def test_keeps_the_very_value_by_position(self):
        for name, attribute in ATTRIBUTES.items():
            for value in any_values() + [5, "undo", {"shelf": [0, -2, 0]}]:
                with self.subTest(name=name, value=copy.copy(value) if value != 10**400 else "huge"):
                    error = getattr(errors, name)(value)
                    self.assertIs(getattr(error, attribute), value)

    def test_keeps_the_very_value_by_name(self):
        for name, attribute in ATTRIBUTES.items():
            with self.subTest(name=name):
                value = {"shelf": [1, 2]}
                error = getattr(errors, name)(**{attribute: value})
                self.assertIs(getattr(error, attribute), value)

    def test_keeps_no_copy(self):
        prices = {"shelf": [0]}
        error = errors.Contradiction(prices)
        prices["shelf"].append(1)
        self.assertEqual(error.prices, {"shelf": [0, 1]})

    def test_has_a_message(self):
        for name in ATTRIBUTES:
            with self.subTest(name=name):
                self.assertNotEqual(str(getattr(errors, name)(10**5000)), "")

    def test_needs_one_argument(self):
        for name in ATTRIBUTES:
            with self.subTest(name=name):
                self.assertRaises(TypeError, getattr(errors, name))
                self.assertRaises(TypeError, getattr(errors, name), 1, 2)

    def test_is_raised_and_caught(self):
        for name, attribute in ATTRIBUTES.items():
            with self.subTest(name=name):
                with self.assertRaises(errors.StockError) as caught:
                    raise getattr(errors, name)("x")
                self.assertEqual(getattr(caught.exception, attribute), "x")


if __name__ == "__main__":
    unittest.main()

"""Point [5]: the classes of the errors."""

import inspect
import unittest

import carryways.errors as errors
from tests.support import loose, odd_objects

VALUED = [
    "InvalidBases", "InvalidRooms", "InvalidHouse", "InvalidRow", "InvalidRows", "InvalidPlace", "InvalidDeed",
    "InvalidNumber", "InvalidCarries", "InvalidChain", "InvalidSteps", "InvalidWish", "InvalidWorths", "InvalidPrices",
    "InvalidDues", "InvalidBounds", "InvalidEvents", "InvalidChange", "InvalidYard", "InvalidSpot", "InvalidScript",
    "InvalidText", "InvalidRecord", "Unlike", "Apart", "Refused",
]
BARE = ["NothingToUndo", "NothingToRedo"]


def named(name):
    return getattr(errors, name)


class Errors(unittest.TestCase):
    def test_all_are_derived_from_carry_error(self):
        self.assertTrue(issubclass(errors.CarryError, ValueError))
        for name in VALUED + BARE:
            self.assertTrue(issubclass(named(name), errors.CarryError), name)
            self.assertIsNot(named(name), errors.CarryError)

    def test_none_is_derived_from_another(self):
        for name in VALUED + BARE:
            for other in VALUED + BARE:
                self.assertEqual(issubclass(named(name), named(other)), name == other, (name, other))

    def test_each_has_its_constructor_in_its_own_body(self):
        for name in VALUED:
            self.assertIn("__init__", vars(named(name)), name)
            self.assertEqual(str(inspect.signature(vars(named(name))["__init__"])), "(self, value=None)", name)

    def test_each_is_derived_from_carry_error_alone(self):
        for name in VALUED + BARE:
            self.assertEqual(named(name).__bases__, (errors.CarryError,), name)

    def test_value_is_the_very_object_by_position(self):
        for name in VALUED:
            for value in odd_objects() + [[1], (1, [2]), {"a": [1]}, -5, 10 ** 30, [loose()]]:
                self.assertIs(named(name)(value).value, value)

    def test_value_is_the_very_object_by_name(self):
        for name in VALUED:
            for value in odd_objects() + [[1], (1, [2]), {"a": [1]}, -5, 10 ** 30, [loose()]]:
                self.assertIs(named(name)(value=value).value, value)

    def test_value_is_none_if_left_out(self):
        for name in VALUED:
            self.assertIsNone(named(name)().value)

    def test_these_take_one_argument_at_most(self):
        for name in VALUED:
            with self.assertRaises(TypeError):
                named(name)(1, 2)
            with self.assertRaises(TypeError):
                named(name)(worth=1)

    def test_three_have_no_field(self):
        for name in ["CarryError"] + BARE:
            self.assertFalse(hasattr(named(name)(), "value"), name)

    def test_each_can_be_raised_and_caught(self):
        for name in VALUED:
            value = [name]
            with self.assertRaises(named(name)) as caught:
                raise named(name)(value)
            self.assertIs(caught.exception.value, value)
        for name in ["CarryError"] + BARE:
            with self.assertRaises(ValueError):
                raise named(name)()


if __name__ == "__main__":
    unittest.main()

"""The interface: names and arguments as the document writes them, each defined in the file that lists it."""

import importlib
import inspect
import unittest

import carryways.errors
from carryways.houses import House
from tests.test_errors import BARE, VALUED

FUNCTIONS = {
    "carryways.houses": """
        weights(house) held_up_to(house) whole_worth(house) many_rows(house) row_at(house, number)
        number_of(house, row) is_within(one, other) lesser_house(one, other) greater_house(one, other)
        with_room(house, place, room) stretch(house, first, last) set_behind(one, base, other)
        tightened(house, place)""",
    "carryways.rows": """
        is_row(house, value) worth_of(house, row) many_things(house, row) deeds_let(house, row)
        is_let(house, row, deed) done(house, row, deed) rows_beside(house, row) is_alone(house, row)
        deed_between(house, one, other) is_chain_from(house, row, value) rows_on(house, row, chain)
        row_behind(house, row, chain) chain_back(house, row, chain) deeds_counted(house, row, chain)
        first_unlike(house, one, other) same_up_to(house, one, other, place)""",
}


class Interface(unittest.TestCase):
    def test_functions(self):
        for module, listed in FUNCTIONS.items():
            for wanted in " ".join(listed.split()).replace(") ", ")\n").split("\n"):
                name = wanted.partition("(")[0]
                function = getattr(importlib.import_module(module), name)
                self.assertEqual(name + str(inspect.signature(function)), wanted)
                self.assertEqual(function.__module__, module)

    def test_house(self):
        self.assertEqual(str(inspect.signature(House)), "(bases, rooms)")
        self.assertEqual(House.__module__, "carryways.houses")
        for name in ("bases", "rooms", "places", "__eq__"):
            self.assertIn(name, vars(House))

    def test_errors(self):
        for name in ["CarryError"] + VALUED + BARE:
            self.assertEqual(getattr(carryways.errors, name).__module__, "carryways.errors")


if __name__ == "__main__":
    unittest.main()

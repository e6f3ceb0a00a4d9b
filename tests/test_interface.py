"""The interface: names and arguments as the document writes them, each defined in the file that lists it."""

import importlib
import inspect
import unittest

import carryways.errors
from carryways.houses import House
from carryways.yard import Yard
from tests.test_errors import BARE, VALUED

FUNCTIONS = {
    "carryways.houses": """
        weights(house) held_up_to(house) whole_worth(house) many_rows(house) row_at(house, number)
        number_of(house, row) is_within(one, other) lesser_house(one, other) greater_house(one, other)
        with_room(house, place, room) stretch(house, first, last) set_behind(one, base, other)
        tightened(house, place)""",
    "carryways.rows": """
        is_row(house, value) worth_of(house, row) many_things(house, row) deeds_let(house, row)
        is_let(house, row, deed) done(house, row, deed) rows_beside(house, row) is_alone(house, row)
        deed_between(house, one, other) is_chain_from(house, row, value) rows_on(house, row, chain)
        row_behind(house, row, chain) chain_back(house, row, chain) deeds_counted(house, row, chain)
        first_unlike(house, one, other) same_up_to(house, one, other, place)""",
    "carryways.classes": """
        stiff_places(house) parts(house) part_worths(house, row) joined(house, one, other)
        why_apart(house, one, other) is_why_apart(house, one, other, value) carries(house, one, other)
        carried(house, row, carries) house_of_parts(house) coarse_row(house, row) row_of_class(house, worths)
        greatest_first(house, worth) lesser_of(house, one, other) greater_of(house, one, other)
        closest_parts(house, one, other)""",
    "carryways.ends": """
        carry_ranges(house, row) least_row(house, row) greatest_row(house, row) farthest_deeds(house, row)
        most_deeds(house, row) farthest(house, row) is_farthest(house, row, value) dead_places(house, row)
        thing_range(house, row)""",
    "carryways.wishes": """
        is_wish(house, value) meets(house, row, wish) is_met(house, row, wish) barring_places(house, row, wish)
        barring_place(house, row, wish) meeting_row(house, row, wish) is_meeting_row(house, row, wish, value)
        meeting_ends(house, row, wish) wish_house(house, wish) same_lot(house, one, other, wish)
        many_lots(house, row, wish) held_at(house, row, place) rigid_places(house, row)
        pairs_at(house, row, place, late) deeds_to(house, row, wish) nearest(house, row, wish)
        is_nearest(house, row, wish, value)""",
    "carryways.chains": """
        fewest_deeds(house, one, other) shortest_chain(house, one, other) is_chain(house, one, other, value)
        is_shortest_chain(house, one, other, value) first_deeds(house, one, other)
        many_shortest(house, one, other) steps_between(house, one, other) waits_for(house, one, other, step)
        is_round(house, row, value) behind_round(house, row, deeds) are_rounds(house, one, other, value)
        fewest_rounds(house, one, other) rounds_for(house, one, other) moments(house, one, other)
        neck(house, one, other) is_neck(house, one, other, value)""",
    "carryways.steps": """
        steps_of(house, row) taken(house, row) needs(house, row, step) all_ahead(house, row, step)
        are_closed(house, row, value) row_by(house, row, steps) is_below(house, row, other)
        steps_above(house, row, other) climb(house, row) is_climb(house, row, value) many_climbs(house, row)
        longest_needs(house, row) is_longest_needs(house, row, value)""",
    "carryways.counts": """
        many_classes(house) class_place(house, row) class_at(house, number) class_size(house, row)
        place_in_class(house, row) row_in_class(house, row, number) by_things(house, row)
        row_of_things(house, row, number) is_row_of_things(house, row, number, value) many_alone(house)
        many_deeds(house) rows_of_worth(house, worth) classes_of_worth(house, worth) greatest_size(house)
        crowded_row(house) is_crowded_row(house, value)""",
    "carryways.holding": """
        is_held(house, worth) row_of_worth(house, worth) is_row_of_worth(house, worth, value)
        why_not_held(house, worth) is_why_not_held(house, worth, value) next_held(house, worth)
        last_held(house, worth) all_held(house) gap_of(house) many_held(house) held_below(house, worth)
        worth_at(house, number) worth_decides(house) two_of_worth(house) is_two_of_worth(house, value)
        holds_alike(one, other) unlike_worth(one, other) marks_of(house) least_alike(house)""",
    "carryways.middles": """
        sum_of_deeds(house, rows, row) middle(house, rows) middle_ends(house, rows) is_middle(house, rows, value)
        least_sum(house, rows) many_middles(house, rows) center(house, rows) is_center(house, rows, value)""",
    "carryways.prices": """
        are_prices(house, value) price_of(house, row, prices) least_price(house, row, prices)
        cheapest(house, row, prices) is_cheapest(house, row, prices, value) many_cheapest(house, row, prices)
        bounds_of(house, row, prices) are_bounds(house, row, prices, value) least_by(house, row, prices, bounds)
        least_total(house, row, prices, dues) best_row(house, row, prices, dues)
        is_best_row(house, row, prices, dues, value) two_prices(house, row, prices, others)
        prices_alike(house, row, prices) unlike_deed(house, row, prices) is_unlike_deed(house, row, prices, value)""",
    "carryways.events": """
        are_events(house, value) behind_event(house, row, event) wish_of(house, event) is_served(house, row, events)
        first_unserved(house, row, events) worths_along(house, row, events) run_of(house, row, events)
        is_run_of(house, row, events, value) why_unserved(house, row, events)
        is_why_unserved(house, row, events, value) least_toll(house, row, events) run_of_least(house, row, events)
        is_run_of_least(house, row, events, value) heights_of(house, row, events)
        are_heights(house, row, events, value) least_by(house, row, events, heights)
        is_served_so(house, row, events, order) many_orders(house, row, events) any_order(house, row, events)
        first_order(house, row, events) always_served(house, row, events) bad_lot(house, row, events)
        is_bad_lot(house, row, events, value)""",
    "carryways.sums": """
        added_house(one, other) added_row(one, other, first, second) can_be_brought(one, other, first, second, rooms)
        brought_row(one, other, first, second, rooms) is_brought_row(one, other, first, second, rooms, value)
        can_pay(one, other, first, second, worth) payment(one, other, first, second, worth)
        is_payment(one, other, first, second, worth, value) payment_bar(one, other, first, second, worth)
        is_payment_bar(one, other, first, second, worth, value) next_payable(one, other, first, second, worth)
        all_payable(one, other, first, second) fewest_handed(one, other, first, second, worth)
        fewest_payment(one, other, first, second, worth) is_fewest_payment(one, other, first, second, worth, value)""",
    "carryways.changes": """
        with_rooms(house, rooms) freed(house, places) must_free(house, one, other) widening(house, one, other)
        parts_within(house, late) classes_within(house, late, row) are_joined_still(house, late)
        split(house, place, first, second, room) split_row(house, place, row)
        is_kept_apart(house, place, first, second, room, one, other) upside_down(house, row)
        longer(house, base, room) shorter(house, many) longer_row(house, row, number) changed_by(house, changes)
        parts_then(house, changes)""",
    "carryways.scripts": """
        play(yard, script) script_text(script) read_script(text) end_of(house, script) shortened(house, script)""",
    "carryways.papers": """
        house_text(house) read_house(text) rows_text(rows) read_rows(text) chain_text(deeds) read_chain(text)""",
    "carryways.yard": """
        replayed(yard, record)""",
}

YARD = """
        house() put(row) take(spot) spots() row_there(spot) aim_there(spot) deeds_there(spot) make(spot, deed)
        go(spot, row) lower(spot) lift(spot) come(spot, place, number) aim(spot, row) let_go(spot) is_met(spot)
        way(spot) is_way(spot, value) pour(one, other) alike_spots(spot) farthest_spots() trial() attempt(action)
        copy() undo() redo() record()"""


class Interface(unittest.TestCase):
    def test_functions(self):
        for module, listed in FUNCTIONS.items():
            for wanted in " ".join(listed.split()).replace(") ", ")\n").split("\n"):
                name = wanted.partition("(")[0]
                function = getattr(importlib.import_module(module), name)
                self.assertEqual(name + str(inspect.signature(function)), wanted)
                self.assertEqual(function.__module__, module)

    def test_house(self):
        self.assertEqual(str(inspect.signature(House)), "(bases, rooms)")
        self.assertEqual(House.__module__, "carryways.houses")
        for name in ("bases", "rooms", "places", "__eq__"):
            self.assertIn(name, vars(House))

    def test_yard(self):
        self.assertEqual(str(inspect.signature(Yard)), "(house)")
        self.assertEqual(Yard.__module__, "carryways.yard")
        for wanted in " ".join(YARD.split()).replace(") ", ")\n").split("\n"):
            name, _, rest = wanted.partition("(")
            self.assertIn(name, vars(Yard))
            signature = inspect.signature(vars(Yard)[name])
            self.assertEqual(list(signature.parameters)[1:], [part for part in rest[:-1].split(", ") if part])

    def test_errors(self):
        for name in ["CarryError"] + VALUED + BARE:
            self.assertEqual(getattr(carryways.errors, name).__module__, "carryways.errors")


if __name__ == "__main__":
    unittest.main()

"""Points [2], [3] and [10] over the whole program: what several modules tell is the same, whenever it is asked."""

import random
import unittest

from carryways.chains import fewest_deeds, fewest_rounds, is_chain, is_shortest_chain, rounds_for, shortest_chain
from carryways.changes import (
    changed_by, classes_within, is_kept_apart, longer, must_free, shorter, split, split_row, upside_down, with_rooms,
)
from carryways.classes import (
    carries, coarse_row, greatest_first, house_of_parts, is_why_apart, joined, part_worths, parts, row_of_class,
    stiff_places, why_apart,
)
from carryways.counts import (
    by_things, class_at, class_place, class_size, many_classes, place_in_class, row_in_class, rows_of_worth,
)
from carryways.ends import (
    carry_ranges, farthest_deeds, greatest_row, is_farthest, least_row, most_deeds, thing_range,
)
from carryways.events import heights_of, least_toll, run_of, wish_of, worths_along
from carryways.holding import is_held, many_held, worth_decides, two_of_worth
from carryways.houses import House, many_rows, number_of, row_at, whole_worth, with_room
from carryways.middles import is_center, least_sum, many_middles, middle, sum_of_deeds
from carryways.papers import chain_text, house_text, read_chain, read_house, read_rows, rows_text
from carryways.prices import (
    bounds_of, cheapest, least_by, least_price, least_total, many_cheapest, prices_alike, two_prices,
)
from carryways.rows import deeds_counted, done, is_chain_from, many_things, row_behind, rows_on, worth_of
from carryways.scripts import end_of, play
from carryways.steps import is_below, steps_above, steps_of, taken
from carryways.sums import added_house, added_row, brought_row, can_be_brought, can_pay, payment
from carryways.wishes import deeds_to, held_at, is_met, many_lots, meeting_row, meets, nearest, wish_house
from carryways.yard import Yard, replayed
from tests.plain import classes_by_hand
from tests.questions import questions
from tests.support import loose, rows_of, snapshot, spoil, tight

HOUSES = [loose(), House([2, 2], [4, 3, 2]), House([2, 3], [5, 2, 1]), House([3, 2], [2, 4, 3]),
    House([2, 2], [5, 1, 2])]


def cases():
    """Houses, each with the rows of a class, some of it, and a row and another one of it."""
    chance, found = random.Random(1), []
    for house in HOUSES:
        for rows in sorted(classes_by_hand(house), key=len)[-4:]:
            found.append((house, rows, chance.choice(rows), chance.choice(rows)))
    return found


CASES = cases()


def of_equal_objects(value):
    """The same value made anew: other lists, tuples, dictionaries and houses."""
    if isinstance(value, House):
        return House(value.bases(), value.rooms())
    if isinstance(value, (list, tuple)):
        return type(value)([of_equal_objects(part) for part in value])
    if isinstance(value, dict):
        return {of_equal_objects(key): of_equal_objects(part) for key, part in value.items()}
    return value


class TheSameAnswers(unittest.TestCase):
    """[2], [10]: equal questions are answered the same, whatever was asked and changed between."""

    def test_again_in_other_orders_of_equal_houses(self):
        for house, _, row, other in CASES[1::3]:
            asked = questions(house, row, other)
            self.assertGreater(len(asked), 200)
            told = []
            for function, *args in asked:
                ahead = snapshot(args)
                answer = function(*args)
                told.append(snapshot(answer))
                self.assertEqual(snapshot(args), ahead, function)
                spoil(answer)
                self.assertEqual(snapshot(args), ahead, function)
            order = list(range(len(asked)))
            for seed in range(2):
                random.Random(seed).shuffle(order)
                for at in order:
                    function, *args = asked[at]
                    again = function(*of_equal_objects(args))
                    self.assertEqual(snapshot(again), told[at], function)
                    spoil(again)

    def test_answers_do_not_hang_on_another_house(self):
        first, *_, second = CASES
        ones, others = questions(first[0], *first[2:]), questions(second[0], *second[2:])
        told = [snapshot(function(*args)) for function, *args in ones]
        for (function, *args), (between, *its), wanted in zip(ones, others, told):
            between(*its)
            self.assertEqual(snapshot(function(*args)), wanted, function)

    def test_arguments_changed_behind_the_call(self):
        for house, _, row, other in CASES[::5]:
            asked = questions(house, row, other)
            told = [snapshot(function(*args)) for function, *args in asked]
            for (function, *args), wanted in zip(asked, told):
                late = of_equal_objects(args)
                function(*late)
                spoil(late)
                self.assertEqual(snapshot(function(*args)), wanted, function)

    def test_houses(self):
        ones, others = HOUSES + [tight()], [of_equal_objects(house) for house in HOUSES + [tight()]]
        for at, one in enumerate(ones):
            self.assertEqual([one == other for other in others], [at == late for late in range(len(others))])
            self.assertEqual([one != other for other in others], [at != late for late in range(len(others))])
            for other in (None, 0, one.rooms(), (one.bases(), one.rooms()), Yard(one), house_text(one)):
                self.assertFalse(one == other)
                self.assertTrue(one != other)


class TheSameThings(unittest.TestCase):
    """One thing that several modules tell is the same."""

    def test_classes(self):
        for house, rows, row, other in CASES:
            size = class_size(house, row)
            self.assertEqual([row_in_class(house, row, at) for at in range(size)], rows)
            self.assertEqual([place_in_class(house, late) for late in rows], list(range(size)))
            self.assertEqual(sum(by_things(house, row).values()), size)
            self.assertEqual(many_cheapest(house, row, [[0] * (room + 1) for room in house.rooms()]), size)
            self.assertEqual(sorted(list(key) for key in heights_of(house, row, [])[0]), rows)
            coarse = house_of_parts(house)
            self.assertEqual([class_place(house, row), many_classes(house)],
                             [number_of(coarse, coarse_row(house, row)), many_rows(coarse)])
            for late in (class_at(house, class_place(house, row)), row_of_class(house, part_worths(house, row))):
                self.assertTrue(joined(house, row, late) and late in rows)
            self.assertEqual(worth_of(coarse, coarse_row(house, row)), worth_of(house, row))
            self.assertEqual([many_things(house, late) for late in (greatest_row(house, row), least_row(house, row))],
                             list(thing_range(house, row)))
            self.assertEqual(sorted({late[1] for late in rows}), held_at(house, row, 1))

    def test_deeds(self):
        for house, rows, row, other in CASES:
            chain, outs = shortest_chain(house, row, other), carries(house, row, other)
            told = [len(chain), fewest_deeds(house, row, other), sum(map(abs, outs)), sum_of_deeds(house, [other], row),
                    heights_of(house, row, [])[0][tuple(other)],
                    deeds_to(house, row, [(count, count) for count in other]),
                    sum(len(deeds) for deeds in rounds_for(house, row, other))]
            self.assertEqual(set(told), {len(chain)})
            self.assertEqual([row_behind(house, row, chain), deeds_counted(house, row, chain)], [other, outs])
            self.assertTrue(is_chain_from(house, row, chain) and is_shortest_chain(house, row, other, chain))
            self.assertEqual(nearest(house, row, [(count, count) for count in other]), other)
            most = [fewest_deeds(house, row, late) for late in rows]
            self.assertEqual([most_deeds(house, row), is_farthest(house, row, other)],
                [max(most), len(chain) == max(most)])
            self.assertEqual([fewest_deeds(house, least_row(house, row), greatest_row(house, row)),
                len(steps_of(house, row)),
                              sum(high - low for low, high in carry_ranges(house, row))],
                              [farthest_deeds(house, row)] * 3)
            self.assertEqual(len(taken(house, row)), fewest_deeds(house, least_row(house, row), row))
            self.assertEqual(is_below(house, row, other), all(out >= 0 for out in outs))
            self.assertEqual(len(steps_above(house, row, other)), sum(max(0, out) for out in outs))
            self.assertLessEqual(fewest_rounds(house, row, other), len(chain))
            late = rows_on(house, row, chain)
            self.assertEqual([done(house, early, deed) for early, deed in zip(late, chain)], late[1:])

    def test_yards_and_scripts(self):
        for house, rows, row, other in CASES:
            yard = Yard(house)
            yard.put(row)
            yard.aim(0, other)
            self.assertTrue(is_chain(house, row, other, yard.way(0)) and yard.is_way(0,
                shortest_chain(house, row, other)))
            script = [("put", row)] + [("make", 0, deed) for deed in shortest_chain(house, row, other)]
            self.assertEqual(end_of(house, script), {0: (other, None)})
            late = Yard(house)
            play(late, script)
            self.assertEqual([late.row_there(0), late.record()], [other, script])
            self.assertEqual(replayed(Yard(house), script).record(), late.record())
            self.assertEqual(late.deeds_there(0), [deed for deed in late.deeds_there(0) if joined(
                house, other, done(house, other, deed))])

    def test_middles_and_prices(self):
        for house, rows, row, other in CASES:
            some = [row, other, rows[0]]
            prices = [[(5 * many + place) % 4 for many in range(room + 1)] for place, room in enumerate(house.rooms())]
            self.assertEqual(sum_of_deeds(house, some, middle(house, some)), least_sum(house, some))
            self.assertEqual([many_middles(house, some), is_center(house, [row], row)], [1, True])
            least = least_price(house, row, prices)
            self.assertEqual(least_by(house, row, prices, bounds_of(house, row, prices)), least)
            self.assertEqual(least_total(house, row, prices, [0] * (house.places() - 1)), least)
            self.assertEqual(two_prices(house, row, prices, prices), [(least, least)])
            self.assertIn(cheapest(house, row, prices), rows)
            dear = [[-cost for cost in costs] for costs in prices]
            self.assertEqual(prices_alike(house, row, prices), least == -least_price(house, row, dear))

    def test_wishes_events_and_sums(self):
        for house, rows, row, other in CASES:
            for place, number in ((0, 1), (0, -1), (1, 1), (2, -1)):
                if abs(number) > house.rooms()[place]:
                    continue
                wish = wish_of(house, (place, number))
                run = run_of(house, row, [(place, number)])
                self.assertEqual(run is not None, is_met(house, row, wish))
                self.assertEqual(least_toll(house, row, [(place, number)]), deeds_to(house, row, wish))
                if run is not None:
                    self.assertTrue(meets(house, run[0], wish) and run[0] in rows)
                    self.assertEqual(len(worths_along(house, row, [(place, number)])), 2)
            nothing = [0] * house.places()
            empty = with_rooms(house, nothing)
            self.assertEqual([added_house(house, empty), added_row(house, empty, row, nothing)], [house, row])
            for rooms in (other, [1] * house.places()):
                wish = [(0, min(room, held)) for room, held in zip(rooms, house.rooms())]
                self.assertEqual(can_be_brought(house, empty, row, nothing, rooms), is_met(house, row, wish))
                self.assertEqual(brought_row(house, empty, row, nothing, rooms) is None,
                    meeting_row(house, row, wish) is None)
                if is_met(house, row, wish):
                    self.assertGreaterEqual(many_lots(house, row, wish), 1)
                    self.assertEqual(wish_house(house, wish).rooms(), [high for _, high in wish])
            worth = worth_of(house, row)
            for paid in range(worth + 1):
                told = can_pay(house, empty, row, nothing, paid)
                self.assertEqual(told, is_held(with_rooms(house, row), paid))
                self.assertEqual(told, payment(house, empty, row, nothing, paid) is not None)

    def test_holding_and_changes(self):
        for house in HOUSES + [tight()]:
            worths = range(whole_worth(house) + 1)
            self.assertEqual(sum(is_held(house, worth) for worth in worths), many_held(house))
            self.assertEqual([rows_of_worth(house, worth) > 0 for worth in worths],
                [is_held(house, worth) for worth in worths])
            self.assertEqual([greatest_first(house, worth) is not None for worth in worths],
                             [is_held(house, worth) for worth in worths])
            self.assertEqual(worth_decides(house), two_of_worth(house) is None)
            for one in rows_of(house)[::7]:
                for other in rows_of(house)[::5]:
                    apart = why_apart(house, one, other)
                    self.assertEqual([apart is None, is_why_apart(house, one, other, apart)],
                                     [joined(house, one, other), apart is not None])
                    if worth_of(house, one) == worth_of(house, other):
                        self.assertEqual(must_free(house, one, other) == [], apart is None)
                    self.assertEqual(joined(house, upside_down(house, one), upside_down(house, other)), apart is None)
            late = changed_by(house, [("room", 0, 7), ("longer", 4, 3), ("shorter", house.places())])
            self.assertEqual(late, with_room(house, 0, 7))
            self.assertEqual(shorter(longer(house, 4, 3), house.places()), house)
            whole = [parts(house)[0][0], parts(house)[-1][1]]
            self.assertEqual([whole, len(parts(house))], [[0, house.places() - 1], len(stiff_places(house)) + 1])
            row = row_at(house, many_rows(house) // 2)
            self.assertEqual(classes_within(house, house, row), [coarse_row(house, row)])

    def test_splits(self):
        house = House([2, 6], [4, 7, 2])
        for row in rows_of(house)[::4]:
            for other in [late for late in rows_of(house) if joined(house, row, late)]:
                for room in (0, 2, 3):
                    late = split(house, 1, 2, 3, room)
                    apart = not joined(late, split_row(house, 1, row), split_row(house, 1, other))
                    self.assertIs(is_kept_apart(house, 1, 2, 3, room, row, other), apart)

    def test_texts(self):
        for house, rows, row, other in CASES:
            self.assertEqual(read_house(house_text(house)), house)
            self.assertEqual(read_rows(rows_text(rows)), rows)
            chain = shortest_chain(house, row, other)
            self.assertEqual(read_chain(chain_text(chain)), chain)


if __name__ == "__main__":
    unittest.main()

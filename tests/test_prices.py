"""Points [2] and [71] to [76]: the functions of carryways.prices."""

import random
import unittest

from carryways.counts import class_size, row_in_class
from carryways.errors import InvalidBounds, InvalidDues, InvalidPrices
from carryways.houses import House, weights
from carryways.prices import (
    are_bounds, are_prices, best_row, bounds_of, cheapest, is_best_row, is_cheapest, is_unlike_deed, least_by,
    least_price, least_total, many_cheapest, price_of, prices_alike, two_prices, unlike_deed,
)
from tests.plain import classes_by_hand, deeds_of, let_by_hand, many_small_houses, ways_from
from tests.support import (
    Argument, a_house, a_row, check_fresh, check_judge, check_leaves_arguments, check_refuses_objects,
    check_wrong_arguments, expect_error, loose, odd_objects, rows_of, small_houses, tight, wrong_dues, wrong_prices,
    wrong_rows,
)

ROW = [4, 1, 1]
THINGS = [[0, 1, 2, 3, 4], [0, 1, 2, 3], [0, 1, 2]]
LATE = [[0, 0, 0, 0, 0], [0, 5, 5, 5], [0, 1, 9]]
WORTHS = [[0, 1, 2, 3, 4], [0, 3, 6, 9], [0, 6, 12]]


def a_prices(good=None, name="prices"):
    return Argument(name, THINGS if good is None else good, InvalidPrices, wrong_prices())


def a_dues():
    return Argument("dues", [1, 1], InvalidDues, wrong_dues())


def some_prices(house, chance):
    """Prices of all kinds: at random, by worth, by worth but at one place, all 0, and beyond each limit."""
    rooms = house.rooms()
    by_worth = [[weight * many for many in range(room + 1)] for room, weight in zip(rooms, weights(house))]
    near = [list(costs) for costs in by_worth]
    chance.choice(near)[-1] += 1
    found = [[[chance.randint(-3, 3) for _ in range(room + 1)] for room in rooms], by_worth, near]
    return found + [[[chance.randint(0, 2) * 10 ** 29 for _ in range(room + 1)] for room in rooms]]


def cases():
    """Houses, each with the rows of a class, one of them with the carries to all, and prices."""
    chance, found = random.Random(71), []
    for house in small_houses() + many_small_houses()[::3] + [House([2, 2, 2], [4, 4, 3, 2]), House([2, 2], [9, 5, 2])]:
        for rows in classes_by_hand(house):
            row = chance.choice(rows)
            outs = {late: told[2] for late, told in ways_from(house, row).items()}
            found.append((house, rows, row, outs, chance.choice(some_prices(house, chance))))
    return found


CASES = cases()


def price_by_hand(row, prices):
    return sum(prices[place][count] for place, count in enumerate(row))


class Prices(unittest.TestCase):
    """[71], [72]"""

    def test_against_all_rows_of_the_class(self):
        for house, rows, row, _, prices in CASES:
            told = [price_by_hand(late, prices) for late in rows]
            self.assertIs(check_leaves_arguments(self, are_prices, house, prices), True)
            self.assertEqual(check_leaves_arguments(self, least_price, house, row, prices), min(told))
            self.assertEqual(check_leaves_arguments(self, many_cheapest, house, row, prices), told.count(min(told)))
            one = check_leaves_arguments(self, cheapest, house, row, prices)
            self.assertEqual(told[rows.index(one)], min(told))
            for late, wanted in zip(rows, told):
                self.assertEqual(check_leaves_arguments(self, price_of, house, late, prices), wanted)
                is_so = check_leaves_arguments(self, is_cheapest, house, row, prices, late)
                self.assertIs(is_so, wanted == min(told))

    def test_great_houses(self):
        for base in (2, 3, 60):
            house, row = House([base] * 7, [60] * 8), [31, 60, 0, 44, 7, 59, 1, 30]
            by_worth = [[weight * many for many in range(61)] for weight in weights(house)]
            things = [list(range(61))] * 8
            size = class_size(house, row)
            whole = price_by_hand(row, by_worth)
            self.assertEqual([least_price(house, row, by_worth), many_cheapest(house, row, by_worth)], [whole, size])
            self.assertIs(prices_alike(house, row, by_worth), True)
            self.assertEqual(many_cheapest(house, row, things), 1)
            few = cheapest(house, row, things)
            self.assertEqual([sum(few), is_cheapest(house, row, things, few)], [least_price(house, row, things), True])
            chance = random.Random(base)
            odd = [[chance.randint(-60, 60) for _ in range(61)] for _ in range(8)]
            least = least_price(house, row, odd)
            self.assertEqual(price_of(house, cheapest(house, row, odd), odd), least)
            for part in range(20):
                self.assertLessEqual(least, price_of(house, row_in_class(house, row, size * part // 20), odd))
            bounds = bounds_of(house, row, odd)
            self.assertEqual([are_bounds(house, row, odd, bounds), least_by(house, row, odd, bounds)], [True, least])
            self.assertIs(prices_alike(house, row, odd), False)

    def test_are_prices(self):
        for value in wrong_prices():
            self.assertIs(check_leaves_arguments(self, are_prices, loose(), value), False)
        for value in (THINGS, LATE, WORTHS, [[-1] * 5, [-10 ** 29] * 4, [10 ** 29] * 3]):
            self.assertIs(check_leaves_arguments(self, are_prices, loose(), value), True)
        self.assertIs(are_prices(tight(), THINGS), False)

    def test_judges_any_object(self):
        check_refuses_objects(self, are_prices, THINGS, loose())
        check_refuses_objects(self, is_cheapest, [1, 0, 2], loose(), ROW, THINGS)
        for value in wrong_rows() + [[0, 0, 0]]:
            self.assertIs(check_leaves_arguments(self, is_cheapest, loose(), ROW, THINGS, value), False)

    def test_wrong_arguments(self):
        check_judge(self, are_prices, [None, THINGS], a_house(loose()))
        for function in (price_of, least_price, cheapest, many_cheapest):
            check_wrong_arguments(self, function, a_house(loose()), a_row(ROW), a_prices())
        check_judge(self, is_cheapest, [None, [1, 0, 2]], a_house(loose()), a_row(ROW), a_prices())


def bounds_by_hand(house, rows, prices, number):
    """Tells, for the least row and all rows, the greatest number at each (place, carries), or judges some numbers."""
    outs = [ways_from(house, late) for late in rows]
    least = [late for late, told in zip(rows, outs) if all(out >= 0 for way in told.values() for out in way[2])][0]
    carries = {late: told[2] for late, told in ways_from(house, least).items()}
    for place in range(house.places() - 1):
        for late, out in carries.items():
            ahead = number((place - 1, out[place - 1])) if place else 0
            yield (place, out[place]), ahead + prices[place][late[place]]


def greatest_bounds(house, rows, prices):
    found = {}
    for key, most in bounds_by_hand(house, rows, prices, lambda early: found[early]):
        found[key] = min(most, found.get(key, most))
    return {key: found[key] for key in sorted(found)}


class Bounds(unittest.TestCase):
    """[73]"""

    def test_against_all_rows_of_the_class(self):
        chance = random.Random(73)
        for house, rows, row, _, prices in CASES:
            least = min(price_by_hand(late, prices) for late in rows)
            wanted = greatest_bounds(house, rows, prices)
            told = check_leaves_arguments(self, bounds_of, house, row, prices)
            self.assertEqual(list(told.items()), list(wanted.items()))
            self.assertEqual(check_leaves_arguments(self, least_by, house, row, prices, told), least)
            for _ in range(4):
                keys = list(told)
                chance.shuffle(keys)
                some = {key: told[key] - chance.choice((0, 0, 1, 2, 10 ** 29, -1)) for key in keys}
                so = all(some[key] <= most for key, most in bounds_by_hand(house, rows, prices, some.get))
                self.assertIs(check_leaves_arguments(self, are_bounds, house, row, prices, some), so)
                if so:
                    self.assertLessEqual(check_leaves_arguments(self, least_by, house, row, prices, some), least)
                else:
                    expect_error(self, InvalidBounds, some, least_by, house, row, prices, some)

    def test_the_sum_of_bounds(self):
        # Behind 0 carries the last place holds 0 things, behind 1 and 2 one and two.
        some = {(0, 0): 4, (0, 1): 0, (1, 0): 7, (1, 1): 2, (1, 2): 0}
        self.assertEqual(least_by(loose(), ROW, THINGS, some), 2)
        self.assertEqual(least_by(loose(), ROW, THINGS, {**some, (1, 2): -5}), -3)
        self.assertEqual(least_by(loose(), ROW, THINGS, {key: -10 ** 29 for key in some}), -10 ** 29)

    def test_one_place(self):
        house, prices = House([], [5]), [[0, 3, 1, -7, 4, 2]]
        self.assertEqual(bounds_of(house, [3], prices), {})
        self.assertEqual([are_bounds(house, [3], prices, {}), least_by(house, [3], prices, {})], [True, -7])
        for value in ([], None, {(0, 0): 0}, {0: 0}):
            self.assertIs(are_bounds(house, [3], prices, value), False)
            expect_error(self, InvalidBounds, value, least_by, house, [3], prices, value)

    def wrong_bounds(self):
        told = bounds_of(loose(), ROW, THINGS)
        found = [list(told), list(told.items()), list(told.values()), [], 0, {**told, (1, 3): 0}, {**told, (2, 0): 0}]
        found += [{key: told[key] for key in told if key != left} for left in told]
        found += [{(key if key != left else odd): told[key] for key in told} for left in told for odd in (
            (left[0],), left + (0,), (left[0], str(left[1])), (left[0], 9), (left, 0), None, "", 0, (bool(left[0]), 7))]
        found += [{(key if key != (1, 1) else odd): told[key] for key in told} for odd in (
            (True, 1), (1, True), (True, True))]
        found += [{(key if key != (0, 0) else odd): told[key] for key in told} for odd in ((False, 0), (0, False))]
        return odd_objects() + found + [{**told, key: odd} for key in told for odd in (
            None, True, "1", [1], (1,), {}, told[key] + 1, loose())]

    def test_judges_any_object(self):
        for value in self.wrong_bounds():
            self.assertIs(check_leaves_arguments(self, are_bounds, loose(), ROW, THINGS, value), False, value)
        self.assertIs(are_bounds(loose(), ROW, THINGS, bounds_of(loose(), [1, 2, 1], THINGS)), True)

    def test_wrong_arguments(self):
        check_wrong_arguments(self, bounds_of, a_house(loose()), a_row(ROW), a_prices())
        check_judge(self, are_bounds, [None, {}], a_house(loose()), a_row(ROW), a_prices())
        bounds = Argument("bounds", bounds_of(loose(), ROW, THINGS), InvalidBounds, self.wrong_bounds())
        check_wrong_arguments(self, least_by, a_house(loose()), a_row(ROW), a_prices(), bounds)


class Dues(unittest.TestCase):
    """[74]"""

    def test_against_all_rows_of_the_class(self):
        chance = random.Random(74)
        for house, rows, row, outs, prices in CASES:
            dues = [chance.choice((0, 1, 2, 5, 10 ** 29)) for _ in house.bases()]
            told = [price_by_hand(late, prices) + sum(due * abs(out) for due, out in zip(dues, outs[tuple(late)]))
                    for late in rows]
            self.assertEqual(check_leaves_arguments(self, least_total, house, row, prices, dues), min(told))
            one = check_leaves_arguments(self, best_row, house, row, prices, dues)
            self.assertEqual(told[rows.index(one)], min(told))
            for late, wanted in zip(rows, told):
                is_so = check_leaves_arguments(self, is_best_row, house, row, prices, dues, late)
                self.assertIs(is_so, wanted == min(told))

    def test_dues_of_nothing_and_of_much(self):
        self.assertEqual(least_total(loose(), ROW, LATE, [0, 0]), least_price(loose(), ROW, LATE))
        self.assertEqual(least_total(loose(), ROW, LATE, [9, 9]), price_of(loose(), ROW, LATE))
        self.assertEqual(best_row(loose(), ROW, LATE, [9, 9]), ROW)
        self.assertEqual([best_row(loose(), [1, 0, 2], LATE, [2, 1]), least_total(loose(), [1, 0, 2], LATE, [2, 1])],
                         [[1, 2, 1], 7])

    def test_judges_any_object(self):
        check_refuses_objects(self, is_best_row, [4, 1, 1], loose(), ROW, LATE, [9, 9])
        for value in wrong_rows() + [[0, 0, 0]]:
            self.assertIs(check_leaves_arguments(self, is_best_row, loose(), ROW, LATE, [1, 1], value), False)

    def test_wrong_arguments(self):
        for function in (least_total, best_row):
            check_wrong_arguments(self, function, a_house(loose()), a_row(ROW), a_prices(), a_dues())
        check_judge(self, is_best_row, [None, ROW], a_house(loose()), a_row(ROW), a_prices(), a_dues())


class Two(unittest.TestCase):
    """[75]"""

    def test_against_all_rows_of_the_class(self):
        chance = random.Random(75)
        for house, rows, row, _, prices in CASES:
            others = chance.choice(some_prices(house, chance))
            pairs = {(price_by_hand(late, prices), price_by_hand(late, others)) for late in rows}
            wanted = [pair for pair in sorted(pairs) if not any(
                other != pair and other[0] <= pair[0] and other[1] <= pair[1] for other in pairs)]
            self.assertEqual(check_leaves_arguments(self, two_prices, house, row, prices, others), wanted)

    def test_one_pair(self):
        self.assertEqual(two_prices(loose(), ROW, THINGS, THINGS), [(3, 3)])
        self.assertEqual(two_prices(loose(), ROW, WORTHS, WORTHS), [(13, 13)])
        self.assertEqual(two_prices(loose(), ROW, WORTHS, LATE), [(13, 5)])
        self.assertEqual(two_prices(loose(), ROW, LATE, WORTHS), [(5, 13)])

    def test_wrong_arguments(self):
        check_wrong_arguments(
            self, two_prices, a_house(loose()), a_row(ROW), a_prices(), a_prices(LATE, "others"))


class Alike(unittest.TestCase):
    """[76]"""

    def test_against_all_rows_of_the_class(self):
        for house, rows, row, _, prices in CASES:
            told = {tuple(late): price_by_hand(late, prices) for late in rows}
            alike = len(set(told.values())) == 1
            self.assertIs(check_leaves_arguments(self, prices_alike, house, row, prices), alike)
            wanted = [(early, deed) for early in rows for deed, late in let_by_hand(house, early).items()
                      if told[tuple(early)] != told[tuple(late)]]
            one = check_leaves_arguments(self, unlike_deed, house, row, prices)
            if alike:
                self.assertIsNone(one)
            else:
                self.assertIn(one, wanted)
            for early in rows[:4] + rows_of(house)[::37]:
                for deed in deeds_of(house):
                    is_so = check_leaves_arguments(self, is_unlike_deed, house, row, prices, (early, deed))
                    self.assertIs(is_so, (early, deed) in wanted)

    def test_judges_any_object(self):
        check_refuses_objects(self, is_unlike_deed, (ROW, ("up", 0)), loose(), [1, 0, 2], THINGS)
        for value in (ROW, ("up", 0), (ROW, ("up", 1)), (ROW, ("up", 2)), ([0, 0, 0], ("up", 0)), (ROW, "up", 0),
                      ([9, 0, 0], ("up", 0)), (ROW,), (ROW, ("up", 0), None)):
            self.assertIs(check_leaves_arguments(self, is_unlike_deed, loose(), ROW, THINGS, value), False)
        self.assertIs(is_unlike_deed(loose(), ROW, WORTHS, (ROW, ("up", 0))), False)

    def test_wrong_arguments(self):
        for function in (prices_alike, unlike_deed):
            check_wrong_arguments(self, function, a_house(loose()), a_row(ROW), a_prices())
        check_judge(self, is_unlike_deed, [None, (ROW, ("up", 0))], a_house(loose()), a_row(ROW), a_prices())


class Fresh(unittest.TestCase):
    def test_fresh(self):
        check_fresh(self, cheapest, loose(), ROW, THINGS)
        check_fresh(self, cheapest, House([], [5]), [3], [[0] * 6])
        check_fresh(self, bounds_of, loose(), ROW, THINGS)
        check_fresh(self, best_row, loose(), ROW, LATE, [9, 9])
        check_fresh(self, two_prices, loose(), ROW, THINGS, LATE)
        check_fresh(self, unlike_deed, loose(), ROW, THINGS)


if __name__ == "__main__":
    unittest.main()

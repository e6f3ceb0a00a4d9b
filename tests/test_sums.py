"""Points [2] and [85] to [88]: the functions of carryways.sums."""

import random
import unittest
from itertools import product

from carryways.classes import joined
from carryways.errors import InvalidNumber, InvalidRooms, InvalidRow, Unlike
from carryways.houses import House
from carryways.sums import (
    added_house, added_row, all_payable, brought_row, can_be_brought, can_pay, fewest_handed, fewest_payment,
    is_brought_row, is_fewest_payment, is_payment, is_payment_bar, next_payable, payment, payment_bar,
)
from tests.plain import class_by_hand, many_small_houses, weights_by_hand, worth
from tests.support import (
    Argument, a_house, a_row, check_fresh, check_judge, check_leaves_arguments, check_refuses_objects,
    check_wrong_arguments, expect_error, loose, odd_objects, rows_of, small_houses, tight, wrong_numbers, wrong_rooms,
    wrong_rows,
)

FIRST, SECOND = [4, 1, 1], [2, 1, 0]


def till():
    return House([12, 20], [11, 19, 5])


def other_house():
    """A house of the bases of `loose`."""
    return House([3, 2], [2, 1, 1])


def wrong_seconds():
    """Objects that are no row of `other_house`."""
    return wrong_rows() + [[4, 1, 1], [3, 0, 0], [0, 2, 0], [0, 0, 2]]


ONE, OTHER = a_house(loose(), "one"), a_house(other_house(), "other")
BOTH_ROWS = [a_row(FIRST, "first"), Argument("second", SECOND, InvalidRow, wrong_seconds())]


def cases():
    """Twos of houses of the same bases, each with a row."""
    chance, found = random.Random(85), []
    for house in small_houses() + many_small_houses()[::2]:
        for _ in range(3):
            other = House(house.bases(), [chance.randint(0, 3) for _ in house.rooms()])
            found.append((house, other, chance.choice(rows_of(house)), chance.choice(rows_of(other))))
    return found


CASES = cases()


def within(row):
    """All rows with at most as many things at each place."""
    return [list(few) for few in product(*[range(count + 1) for count in row])]


def payments_by_hand(house, first, second):
    """The dictionary from each worth that can be paid to all payments of it."""
    found = {}
    for given, back in product(within(first), within(second)):
        found.setdefault(worth(house, given) - worth(house, back), []).append((given, back))
    return found


PAYING = [case for case in CASES if len(within(case[2])) * len(within(case[3])) <= 700]


class Added(unittest.TestCase):
    """[85], [86]"""

    def test_added(self):
        for one, other, first, second in CASES:
            house = check_leaves_arguments(self, added_house, one, other)
            self.assertEqual(house.bases(), one.bases())
            self.assertEqual(house.rooms(), [room + more for room, more in zip(one.rooms(), other.rooms())])
            row = check_leaves_arguments(self, added_row, one, other, first, second)
            self.assertEqual(row, [count + more for count, more in zip(first, second)])

    def test_joined_rows_stay_joined(self):
        for one, other, first, second in CASES[::4]:
            house, row = added_house(one, other), added_row(one, other, first, second)
            for late in class_by_hand(one, first):
                self.assertIs(joined(house, row, added_row(one, other, late, second)), True)

    def test_brought_against_all_rows_of_the_class(self):
        chance = random.Random(86)
        for one, other, first, second in CASES:
            rows = class_by_hand(added_house(one, other), added_row(one, other, first, second))
            for most in (2, 5, 70):
                rooms = [chance.randint(0, most) for _ in first]
                wanted = [row for row in rows if all(count <= room for count, room in zip(row, rooms))]
                args = (one, other, first, second, rooms)
                self.assertIs(check_leaves_arguments(self, can_be_brought, *args), wanted != [])
                told = check_leaves_arguments(self, brought_row, *args)
                self.assertTrue(told in wanted if wanted else told is None)
                for row in rows[:5] + rows_of(one)[::19]:
                    self.assertIs(check_leaves_arguments(self, is_brought_row, *args, row), row in wanted)

    def test_great_houses(self):
        one, other = House([2] * 7, [60] * 8), House([2] * 7, [60] * 8)
        first, second = [60] * 8, [0, 60] * 4
        self.assertEqual(added_house(one, other).rooms(), [120] * 8)
        # All in as few things as can be: 255 times 60 and 170 times 60.
        rooms = [1, 1, 1, 1, 1, 1, 1, 200]
        self.assertIs(can_be_brought(one, other, first, second, rooms), False)
        rooms = [1, 1, 1, 1, 1, 120, 120, 200]
        row = brought_row(one, other, first, second, rooms)
        self.assertIs(is_brought_row(one, other, first, second, rooms, row), True)
        self.assertEqual(worth(one, row), 60 * 255 + 60 * 170)

    def test_wrong_arguments(self):
        rooms = Argument("rooms", [4, 3, 1], InvalidRooms, wrong_rooms())
        check_wrong_arguments(self, added_house, ONE, OTHER)
        check_wrong_arguments(self, added_row, ONE, OTHER, *BOTH_ROWS)
        for function in (can_be_brought, brought_row):
            check_wrong_arguments(self, function, ONE, OTHER, *BOTH_ROWS, rooms)
        check_judge(self, is_brought_row, [None, [3, 2, 1]], ONE, OTHER, *BOTH_ROWS, rooms)

    def test_judges_any_object(self):
        check_refuses_objects(self, is_brought_row, [0, 4, 1], loose(), other_house(), FIRST, SECOND, [4, 4, 1])
        # No row of the one house, but one of both.
        self.assertIs(is_brought_row(loose(), other_house(), FIRST, SECOND, [9, 9, 9], [0, 0, 3]), True)
        for value in wrong_rows() + [[18, 0, 0], [3, 5, 0], [0, 6, 0]]:
            told = check_leaves_arguments(self, is_brought_row, loose(), other_house(), FIRST, SECOND, [20, 9, 2],
                value)
            self.assertIs(told, False)


class Paying(unittest.TestCase):
    """[87], [88]"""

    def test_against_all_payments(self):
        for one, other, first, second in PAYING:
            payments = payments_by_hand(one, first, second)
            for number in range(-worth(one, second) - 2, worth(one, first) + 3):
                args, wanted = (one, other, first, second, number), payments.get(number, [])
                self.assertIs(check_leaves_arguments(self, can_pay, *args), wanted != [])
                told = check_leaves_arguments(self, payment, *args)
                self.assertTrue(told in wanted if wanted else told is None)
                fewest = min((sum(given) + sum(back) for given, back in wanted), default=None)
                self.assertEqual(check_leaves_arguments(self, fewest_handed, *args), fewest)
                told = check_leaves_arguments(self, fewest_payment, *args)
                if wanted:
                    self.assertTrue(told in wanted and sum(told[0]) + sum(told[1]) == fewest)
                else:
                    self.assertIsNone(told)
                late = [paid for paid in payments if paid >= number]
                self.assertEqual(check_leaves_arguments(self, next_payable, *args), min(late, default=None))
                for value in wanted[:3] + payments.get(number + 1, [])[:2]:
                    self.assertIs(check_leaves_arguments(self, is_payment, *args, value), value in wanted)
                    is_so = value in wanted and sum(value[0]) + sum(value[1]) == fewest
                    self.assertIs(check_leaves_arguments(self, is_fewest_payment, *args, value), is_so)

    def test_bars(self):
        for one, other, first, second in PAYING[::2]:
            payments = payments_by_hand(one, first, second)
            weights = weights_by_hand(one.bases())
            for number in range(-worth(one, second) - 3, worth(one, first) + 4):
                args, bars = (one, other, first, second, number), []
                if number > worth(one, first) or -number > worth(one, second):
                    bars.append(("all",))
                for place in range(one.places() - 1):
                    held = sum((first[at] + second[at]) * weights[at] for at in range(place + 1))
                    if (number + worth(one, second)) % weights[place + 1] > held:
                        bars.append(("place", place))
                self.assertIs(bars == [], number in payments)
                told = check_leaves_arguments(self, payment_bar, *args)
                self.assertTrue(told in bars if bars else told is None)
                for value in [("all",)] + [("place", place) for place in range(-1, one.places() + 1)]:
                    self.assertIs(check_leaves_arguments(self, is_payment_bar, *args, value), value in bars)

    def test_all_payable(self):
        for one, other, first, second in PAYING:
            payments = payments_by_hand(one, first, second)
            wanted = all(number in payments for number in range(-worth(one, second), worth(one, first) + 1))
            self.assertIs(check_leaves_arguments(self, all_payable, one, other, first, second), wanted)

    def test_the_rows_alone_matter(self):
        # What the houses have room for is not there.
        first, second = [3, 1, 1], [5, 4, 0]
        small = House([12, 20], [3, 1, 1])
        for number in range(-60, 260):
            told = [can_pay(house, till(), first, second, number) for house in (till(), small)]
            self.assertEqual(told[0], told[1])

    def test_great_houses(self):
        for base in (2, 3, 60):
            house = House([base] * 7, [60] * 8)
            first, second = [31, 60, 0, 44, 7, 59, 1, 30], [5, 0, 60, 2, 60, 0, 30, 1]
            for number in (0, 1, -1, 777, 10 ** 6, -10 ** 5, 10 ** 29, -10 ** 29):
                args = (house, house, first, second, number)
                one, few = payment(*args), fewest_payment(*args)
                if payment_bar(*args) is None:
                    self.assertEqual([is_payment(*args, one), is_payment(*args, few)], [True, True])
                    self.assertEqual([next_payable(*args), is_fewest_payment(*args, few)], [number, True])
                    self.assertLessEqual(fewest_handed(*args), sum(one[0]) + sum(one[1]))
                else:
                    self.assertEqual([one, few, fewest_handed(*args), can_pay(*args)], [None, None, None, False])
                    self.assertNotEqual(next_payable(*args), number)

    def test_greatest_first_need_not_be_fewest(self):
        # A pound and three pence are given, four shillings come back.
        self.assertEqual(fewest_handed(till(), till(), [3, 1, 1], [5, 4, 0], 195), 8)
        house = House([4, 2], [9, 9, 9])
        self.assertEqual(fewest_payment(house, house, [0, 3, 1], [4, 0, 0], 12), ([0, 1, 1], [0, 0, 0]))
        # 8 less 1, and where there is no 1 to give back, 4 and three times 1.
        self.assertEqual(fewest_handed(house, house, [9, 9, 9], [9, 9, 9], 7), 2)
        self.assertEqual(fewest_handed(house, house, [9, 9, 9], [0, 0, 9], 7), 4)

    def test_nothing_to_pay(self):
        for one, other, first, second in CASES[::3]:
            args = (one, other, first, second, 0)
            nothing = [0] * one.places()
            self.assertEqual([fewest_handed(*args), fewest_payment(*args)], [0, (nothing, nothing)])
            self.assertEqual([is_payment(*args, (nothing, nothing)), payment_bar(*args)], [True, None])

    def test_judges_any_object(self):
        args = (till(), till(), [3, 1, 1], [5, 4, 0])
        check_refuses_objects(self, is_payment, ([0, 1, 0], [3, 0, 0]), *args, 9)
        check_refuses_objects(self, is_payment, ([0, 0, 0], [0, 0, 0]), *args, 0)
        check_refuses_objects(self, is_fewest_payment, ([0, 1, 0], [3, 0, 0]), *args, 9)
        check_refuses_objects(self, is_payment_bar, ("place", 0), *args, 5)
        check_refuses_objects(self, is_payment_bar, ("all",), *args, 10 ** 4)
        for value in (([0, 1, 0], [3, 0, 0], None), ([0, 1, 0],), ([0, 1, 0], [3, 0]), ([4, 1, 0], [7, 0, 0]),
                      ([0, 2, 0], [15, 0, 0]), ([-3, 1, 0], [0, 0, 0]), ([3, 0, 0], [0, 1, 0]), ("all",), None):
            self.assertIs(check_leaves_arguments(self, is_payment, *args, 9, value), False)
        self.assertIs(is_payment(*args, 21, ([0, 2, 0], [3, 0, 0])), False)
        self.assertIs(is_fewest_payment(*args, 9, ([1, 1, 0], [4, 0, 0])), False)
        self.assertIs(is_payment(*args, 9, ([1, 1, 0], [4, 0, 0])), True)

    def test_wrong_arguments(self):
        number = Argument("worth", 5, InvalidNumber, wrong_numbers())
        functions = (can_pay, payment, payment_bar, next_payable, fewest_handed, fewest_payment)
        for function in functions:
            check_wrong_arguments(self, function, ONE, OTHER, *BOTH_ROWS, number)
        for judge in (is_payment, is_payment_bar, is_fewest_payment):
            check_judge(self, judge, [None, ("all",)], ONE, OTHER, *BOTH_ROWS, number)
        check_wrong_arguments(self, all_payable, ONE, OTHER, *BOTH_ROWS)

    def test_unlike(self):
        calls = [(added_house, []), (added_row, [FIRST, SECOND]), (all_payable, [FIRST, SECOND])]
        calls += [(function, [FIRST, SECOND, [4, 3, 1]]) for function in (can_be_brought, brought_row)]
        calls += [(function, [FIRST, SECOND, 5]) for function in (
            can_pay, payment, payment_bar, next_payable, fewest_handed, fewest_payment)]
        calls += [(is_brought_row, [FIRST, SECOND, [4, 3, 1], None])]
        calls += [(judge, [FIRST, SECOND, 5, None]) for judge in (is_payment, is_payment_bar, is_fewest_payment)]
        for function, rest in calls:
            for house in (tight(), House([3], [4, 3]), House([2, 3], [4, 3, 2]), House([], [5])):
                expect_error(self, Unlike, house, function, loose(), house, *rest)
                # Ahead of whatever is wrong behind it.
                expect_error(self, Unlike, house, function, loose(), house, *[None for _ in rest])
            for wrong in odd_objects()[:4]:
                expect_error(self, ONE.error, wrong, function, wrong, tight(), *rest)

    def test_fresh(self):
        check_fresh(self, added_row, loose(), other_house(), FIRST, SECOND)
        check_fresh(self, brought_row, loose(), other_house(), FIRST, SECOND, [9, 9, 9])
        check_fresh(self, payment, loose(), other_house(), FIRST, SECOND, 5)
        check_fresh(self, payment, House([], [5]), House([], [5]), [5], [3], 5)
        check_fresh(self, fewest_payment, loose(), other_house(), FIRST, SECOND, 5)
        check_fresh(self, payment_bar, till(), till(), [3, 1, 1], [5, 4, 0], 5)


if __name__ == "__main__":
    unittest.main()

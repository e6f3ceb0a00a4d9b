"""Points [2] and [59] to [65]: the functions of carryways.holding."""

import unittest
from itertools import product

from carryways.classes import house_of_parts, joined
from carryways.errors import InvalidHouse, InvalidNumber, Unlike
from carryways.holding import (
    all_held, gap_of, held_below, holds_alike, is_held, is_row_of_worth, is_two_of_worth, is_why_not_held, last_held,
    least_alike, many_held, marks_of, next_held, row_of_worth, two_of_worth, unlike_worth, why_not_held, worth_at,
    worth_decides,
)
from carryways.houses import House, whole_worth
from tests.plain import houses_like, many_small_houses, part_worths_by_hand, weights_by_hand, worth
from tests.support import (
    Argument, a_house, check_fresh, check_judge, check_leaves_arguments, check_refuses_objects, check_wrong_arguments,
    expect_error, loose, no_houses, rows_of, small_houses, wrong_counts, wrong_numbers, wrong_rows,
)

SMALL, GREAT = House([3], [1, 2]), House([3], [4, 1])
HOUSES = small_houses() + many_small_houses() + [House([5, 2], [2, 3, 2]), House([2, 5, 2], [5, 1, 0, 2])]
STIFF = House([2, 3], [5, 1, 1])


def a_worth():
    return Argument("worth", 7, InvalidNumber, wrong_numbers())


def worths_of(house):
    """All worths that rows of a house have, ascending."""
    return sorted({worth(house, row) for row in rows_of(house)})


def numbers_about(house):
    return list(range(-4, whole_worth(house) + 5)) + [-10 ** 29, 10 ** 29]


def bars_by_hand(house, number):
    """The bars against a worth, by the words of [60]."""
    weights, rooms = weights_by_hand(house.bases()), house.rooms()
    upto = [sum(rooms[at] * weights[at] for at in range(place + 1)) for place in range(house.places())]
    found = [("below",)] if number < 0 else []
    found += [("above",)] if number > upto[-1] else []
    return found + [("place", at) for at in range(house.places() - 1) if number % weights[at + 1] > upto[at]]


class Held(unittest.TestCase):
    """[59], [60]"""

    def test_against_all_rows(self):
        for house in HOUSES:
            rows, held = rows_of(house), worths_of(house)
            for number in numbers_about(house):
                self.assertIs(check_leaves_arguments(self, is_held, house, number), number in held)
                row = check_leaves_arguments(self, row_of_worth, house, number)
                if number in held:
                    self.assertTrue(row in rows and worth(house, row) == number)
                else:
                    self.assertIsNone(row)
                for late in rows[::1 + len(rows) // 4]:
                    is_so = worth(house, late) == number
                    self.assertIs(check_leaves_arguments(self, is_row_of_worth, house, number, late), is_so)

    def test_bars(self):
        for house in HOUSES:
            held = worths_of(house)
            for number in numbers_about(house):
                bars = bars_by_hand(house, number)
                self.assertIs(bars == [], number in held)
                told = check_leaves_arguments(self, why_not_held, house, number)
                self.assertTrue(told in bars if bars else told is None)
                for value in [("below",), ("above",)] + [("place", at) for at in range(-1, house.places() + 1)]:
                    is_so = value in bars
                    self.assertIs(check_leaves_arguments(self, is_why_not_held, house, number, value), is_so)

    def test_judges_any_object(self):
        check_refuses_objects(self, is_row_of_worth, [4, 1, 1], loose(), 13)
        check_refuses_objects(self, is_why_not_held, ("below",), SMALL, -3)
        check_refuses_objects(self, is_why_not_held, ("above",), SMALL, 9)
        check_refuses_objects(self, is_why_not_held, ("place", 0), SMALL, 5)
        check_refuses_objects(self, is_why_not_held, ("place", 1), House([2, 2], [1, 0, 3]), 2)
        for value in wrong_rows():
            self.assertIs(check_leaves_arguments(self, is_row_of_worth, loose(), 13, value), False)
        for value in [("place", 1), ("place", 0, 0), ("place",), ("below", 0), (0, "place"), ("above",), 0, "below"]:
            self.assertIs(is_why_not_held(SMALL, 5, value), False)
        self.assertIs(is_why_not_held(SMALL, 4, None), False)

    def test_wrong_arguments(self):
        for function in (is_held, row_of_worth, why_not_held, next_held, last_held, held_below):
            check_wrong_arguments(self, function, a_house(loose()), a_worth())
        check_judge(self, is_row_of_worth, [None, [1, 2, 0]], a_house(loose()), a_worth())
        check_judge(self, is_why_not_held, [None, ("below",)], a_house(loose()), a_worth())


class Next(unittest.TestCase):
    """[61], [62]"""

    def test_against_all_worths(self):
        for house in HOUSES:
            held = worths_of(house)
            for number in numbers_about(house):
                above = [late for late in held if late >= number]
                below = [early for early in held if early <= number]
                told = check_leaves_arguments(self, next_held, house, number)
                self.assertEqual(told, above[0] if above else None)
                told = check_leaves_arguments(self, last_held, house, number)
                self.assertEqual(told, below[-1] if below else None)
                many = len([early for early in held if early < number])
                self.assertEqual(check_leaves_arguments(self, held_below, house, number), many)
            gaps = [number for number in range(whole_worth(house)) if number not in held]
            self.assertIs(check_leaves_arguments(self, all_held, house), gaps == [])
            self.assertEqual(check_leaves_arguments(self, gap_of, house), gaps[0] if gaps else None)
            self.assertEqual(check_leaves_arguments(self, many_held, house), len(held))
            self.assertEqual([worth_at(house, number) for number in range(len(held))], held)
            for wrong in (len(held), -1, 10 ** 29):
                expect_error(self, InvalidNumber, wrong, worth_at, house, wrong)

    def test_great_houses(self):
        for house in (House([60] * 7, [60] * 8), House([60] * 7, [58] * 8), House([2] * 7, [60] * 8),
                      House([60, 7, 50] * 2, [3, 60, 60, 0, 60, 1, 60]), House([10 ** 9], [10 ** 8, 10 ** 12])):
            many = many_held(house)
            self.assertEqual(worth_at(house, many - 1), whole_worth(house))
            for number in (0, 1, many // 7, many // 2, many - 2):
                told = worth_at(house, number)
                self.assertEqual([held_below(house, told), held_below(house, told + 1)], [number, number + 1])
                self.assertEqual([next_held(house, told), last_held(house, told)], [told, told])
                self.assertEqual(next_held(house, told + 1), worth_at(house, number + 1))
                self.assertEqual(last_held(house, worth_at(house, number + 1) - 1), told)
                self.assertIs(is_row_of_worth(house, told, row_of_worth(house, told)), True)
            self.assertIs(all_held(house), many == whole_worth(house) + 1)
            gap = gap_of(house)
            self.assertIs(gap is None, all_held(house))
            if gap is not None:
                self.assertEqual([is_held(house, gap), held_below(house, gap)], [False, gap])
                self.assertIs(is_why_not_held(house, gap, why_not_held(house, gap)), True)

    def test_rooms_that_are_empty_above_leave_no_gap(self):
        self.assertEqual([all_held(House([60, 60], [7, 0, 0])), gap_of(House([60, 60], [7, 0, 0]))], [True, None])
        self.assertEqual(gap_of(House([60, 60], [7, 0, 1])), 8)
        self.assertEqual([all_held(House([], [0])), many_held(House([], [0])), worth_at(House([], [0]), 0)],
            [True, 1, 0])

    def test_wrong_arguments(self):
        for function in (all_held, gap_of, many_held, worth_decides, two_of_worth, marks_of, least_alike):
            check_wrong_arguments(self, function, a_house(loose()))
        number = Argument("number", 25, InvalidNumber, wrong_counts() + [26, 10 ** 20])
        check_wrong_arguments(self, worth_at, a_house(loose()), number)


class Decides(unittest.TestCase):
    """[63]"""

    def test_against_all_rows(self):
        for house in HOUSES:
            parts_of_worth, apart = {}, []
            for row in rows_of(house):
                told = part_worths_by_hand(house, row)
                first = parts_of_worth.setdefault(worth(house, row), (told, row))
                if first[0] != told:
                    apart.append((first[1], row))
            self.assertIs(check_leaves_arguments(self, worth_decides, house), apart == [])
            told = check_leaves_arguments(self, two_of_worth, house)
            self.assertIs(told is None, apart == [])
            if told is not None:
                self.assertEqual([type(told), len(told)], [tuple, 2])
                one, other = told
                self.assertTrue(one in rows_of(house) and other in rows_of(house))
                self.assertEqual(worth(house, one), worth(house, other))
                self.assertIs(joined(house, one, other), False)
                self.assertIs(is_two_of_worth(house, told), True)
            for two in apart[:9]:
                self.assertIs(check_leaves_arguments(self, is_two_of_worth, house, two), True)
                self.assertIs(is_two_of_worth(house, two[::-1]), True)

    def test_judge_against_all_rows(self):
        for house in (STIFF, loose(), House([2, 2], [3, 1, 2]), House([], [2])):
            for one in rows_of(house):
                for other in rows_of(house):
                    alike = worth(house, one) == worth(house, other)
                    is_so = alike and part_worths_by_hand(house, one) != part_worths_by_hand(house, other)
                    self.assertIs(is_two_of_worth(house, (one, other)), is_so)

    def test_judges_any_object(self):
        check_refuses_objects(self, is_two_of_worth, ([1, 0, 1], [5, 1, 0]), STIFF)
        for value in [([1, 0, 1],), ([1, 0, 1], [5, 1, 0], [5, 1, 0]), ([1, 0, 1], [5, 2, 0]), ([1, 0], [5, 1, 0])]:
            self.assertIs(is_two_of_worth(STIFF, value), False)
        check_judge(self, is_two_of_worth, [None, ([1, 0, 1], [5, 1, 0])], a_house(STIFF))

    def test_great_houses(self):
        house = House([2, 60, 60, 60], [60, 29, 0, 0, 60])
        self.assertIs(worth_decides(house), True)
        late = House([2, 60, 60], [60, 31, 0, 60])
        self.assertIs(worth_decides(House([2, 2, 60], [60, 1, 0, 60])), True)
        self.assertIs(worth_decides(House([2, 2, 2], [60, 1, 0, 60])), False)
        self.assertIs(worth_decides(late), True)
        self.assertIs(is_two_of_worth(late, two_of_worth(late)), False)


class Alike(unittest.TestCase):
    """[64], [65]"""

    def families(self):
        """Houses of the same bases, each with its worths."""
        for bases, most in (([], 4), ([2], 4), ([3], 6), ([2, 2], 3), ([2, 3], 3), ([3, 2], 3), ([2, 2, 2], 2)):
            yield [(house, worths_of(house)) for house in houses_like(bases, most)]

    def test_against_all_worths(self):
        for houses in self.families():
            for one, held in houses[::1 + len(houses) // 25]:
                for other, also in houses:
                    unlike = sorted(set(held) ^ set(also))
                    self.assertIs(check_leaves_arguments(self, holds_alike, one, other), unlike == [])
                    told = check_leaves_arguments(self, unlike_worth, one, other)
                    self.assertEqual(told, unlike[0] if unlike else None)
                    self.assertIs(marks_of(one) == marks_of(other), unlike == [])

    def test_marks(self):
        for house in HOUSES:
            weights, rooms = weights_by_hand(house.bases()), house.rooms()
            wanted = []
            for place in range(house.places() - 1):
                lower = House(house.bases()[:place], rooms[:place + 1])
                wanted.append(max(number for number in worths_of(lower) if number < weights[place + 1]))
            self.assertEqual(check_leaves_arguments(self, marks_of, house), wanted + [whole_worth(house)])

    def test_least_alike(self):
        for houses in self.families():
            groups = {}
            for house, held in houses:
                groups.setdefault(tuple(held), []).append(self.held_upto(house))
            for house, held in houses:
                least = check_leaves_arguments(self, least_alike, house)
                self.assertEqual([least.bases(), worths_of(least)], [house.bases(), held])
                upto = self.held_upto(least)
                for other in groups[tuple(held)]:
                    self.assertTrue(all(early <= late for early, late in zip(upto, other)))
                self.assertEqual(least_alike(least), least)

    def held_upto(self, house):
        weights, rooms = weights_by_hand(house.bases()), house.rooms()
        return [sum(rooms[at] * weights[at] for at in range(place + 1)) for place in range(house.places())]

    def test_great_houses(self):
        for bases in ([2] * 7, [3, 2, 5, 2, 2, 7, 2]):
            for rooms in product((1, 60), repeat=8):
                house = House(bases, list(rooms))
                least = least_alike(house)
                self.assertEqual([holds_alike(house, least), unlike_worth(house, least)], [True, None])
                self.assertTrue(all(early <= late for early, late in zip(self.held_upto(least), self.held_upto(house))))
                self.assertEqual([marks_of(least), many_held(least)], [marks_of(house), many_held(house)])
        full = House([60] * 7, [59] * 8)
        more = House([60] * 7, [60] + [59] * 7)
        self.assertEqual(unlike_worth(full, more), 60 ** 8)
        less = House([60] * 7, [59, 59, 58] + [59] * 5)
        self.assertEqual(unlike_worth(full, less), 59 * 60 ** 2)

    def test_houses_of_parts_may_be_passed(self):
        house = House([60, 2, 60, 60, 2, 60, 60], [60, 1, 60, 60, 60, 60, 59, 60])
        coarse = house_of_parts(house)
        self.assertEqual([many_held(coarse), whole_worth(coarse)], [many_held(house), whole_worth(house)])
        self.assertEqual([gap_of(coarse), all_held(coarse)], [gap_of(house), all_held(house)])
        self.assertIs(holds_alike(coarse, least_alike(coarse)), True)
        self.assertIs(is_row_of_worth(coarse, 10 ** 9, row_of_worth(coarse, 10 ** 9)), is_held(house, 10 ** 9))
        self.assertIs(worth_decides(coarse), True)

    def test_wrong_arguments(self):
        for function in (holds_alike, unlike_worth):
            check_wrong_arguments(self, function, a_house(loose(), "one"), a_house(House([3, 2], [1, 1, 1]), "other"))
            for other in (House([3], [4, 3]), House([2, 3], [4, 3, 2]), House([3, 2, 2], [4, 3, 2, 1]), House([], [5])):
                expect_error(self, Unlike, other, function, loose(), other)
                for wrong in no_houses():
                    expect_error(self, InvalidHouse, wrong, function, wrong, other)

    def test_fresh(self):
        check_fresh(self, row_of_worth, loose(), 13)
        check_fresh(self, two_of_worth, STIFF)
        check_fresh(self, marks_of, loose())
        least = least_alike(GREAT)
        least.rooms().append(3)
        self.assertEqual(least, least_alike(GREAT))


if __name__ == "__main__":
    unittest.main()

"""Points [2] and [66] to [70]: the functions of carryways.middles."""

import random
import unittest

from carryways.counts import class_size, row_in_class
from carryways.errors import Apart, InvalidRow, InvalidRows
from carryways.houses import House
from carryways.middles import center, is_center, is_middle, least_sum, many_middles, middle, middle_ends, sum_of_deeds
from tests.plain import classes_by_hand, many_small_houses, ways_from
from tests.support import (
    Argument, a_house, a_row, check_fresh, check_judge, check_leaves_arguments, check_refuses_objects,
    check_wrong_arguments, expect_error, loose, rows_of, small_houses, tight, wrong_lists_of_rows, wrong_rows,
)

ROWS = [[1, 0, 2], [4, 1, 1], [4, 3, 0]]


def a_rows(good=None, wrong=()):
    return Argument("rows", ROWS if good is None else good, InvalidRows, wrong_lists_of_rows() + list(wrong))


def cases():
    """Houses, each with all rows of a class, the deeds between any two of them, and lists of rows of it."""
    chance, found = random.Random(66), []
    for house in small_houses() + many_small_houses()[::2] + [House([2, 2, 2], [4, 4, 3, 2]), House([2, 2], [9, 5, 2])]:
        for rows in classes_by_hand(house):
            deeds = {(tuple(row), late): told[0] for row in rows for late, told in ways_from(house, row).items()}
            lists = [[chance.choice(rows) for _ in range(many)] for many in (1, 2, chance.randint(3, 7))]
            found.append((house, rows, deeds, lists))
    return found


CASES = cases()


class Sums(unittest.TestCase):
    """[66] to [69]"""

    def test_against_all_rows_of_the_class(self):
        for house, rows, deeds, lists in CASES:
            for some in lists:
                sums = [sum(deeds[tuple(row), tuple(late)] for late in some) for row in rows]
                for row, wanted in zip(rows, sums):
                    self.assertEqual(check_leaves_arguments(self, sum_of_deeds, house, some, row), wanted)
                    told = check_leaves_arguments(self, is_middle, house, some, row)
                    self.assertIs(told, wanted == min(sums))
                self.assertEqual(check_leaves_arguments(self, least_sum, house, some), min(sums))
                self.assertEqual(check_leaves_arguments(self, many_middles, house, some), sums.count(min(sums)))

    def test_ends_have_the_outer_carries_of_all_middles(self):
        for house, rows, deeds, lists in CASES:
            for some in lists:
                sums = [sum(deeds[tuple(row), tuple(late)] for late in some) for row in rows]
                middles = [row for row, told in zip(rows, sums) if told == min(sums)]
                carries = [ways_from(house, rows[0])[tuple(row)][2] for row in middles]
                ends = check_leaves_arguments(self, middle_ends, house, some)
                self.assertIsInstance(ends, tuple)
                outs = [ways_from(house, rows[0])[tuple(end)][2] for end in ends]
                self.assertEqual(outs, [tuple(map(min, *carries, carries[0])), tuple(map(max, *carries, carries[0]))])
                if len(some) % 2 == 1:
                    one = check_leaves_arguments(self, middle, house, some)
                    self.assertEqual([[one], (one, one)], [middles, ends])
                else:
                    expect_error(self, InvalidRows, some, middle, house, some)

    def test_rows_that_stand_twice_count_twice(self):
        one, other = [4, 3, 0], [1, 0, 2]
        self.assertEqual(middle(loose(), [one, other, one]), one)
        self.assertEqual(middle(loose(), [other, one, other]), other)
        self.assertEqual([many_middles(loose(), [one, other]), many_middles(loose(), [one, other, one])], [4, 1])
        self.assertEqual(sum_of_deeds(loose(), [one, one, one], other), 9)

    def test_great_houses(self):
        for base in (2, 3, 60):
            house, row = House([base] * 7, [60] * 8), [31, 60, 0, 44, 7, 59, 1, 30]
            size = class_size(house, row)
            rows = [row_in_class(house, row, size * part // 8) for part in (0, 1, 3, 4, 5, 6, 7)]
            one = middle(house, rows)
            self.assertEqual(sum_of_deeds(house, rows, one), least_sum(house, rows))
            self.assertEqual([many_middles(house, rows), is_middle(house, rows, one)], [1, True])
            self.assertGreaterEqual(min(sum_of_deeds(house, rows, late) for late in rows), least_sum(house, rows))
            lower, upper = middle_ends(house, rows[:6])
            self.assertEqual(sum_of_deeds(house, rows[:6], lower), sum_of_deeds(house, rows[:6], upper))
            self.assertGreaterEqual(many_middles(house, rows[:6]), 2 if lower != upper else 1)


class Centers(unittest.TestCase):
    """[70]"""

    def test_against_all_rows_of_the_class(self):
        for house, rows, deeds, lists in CASES:
            for some in lists:
                most = [max(deeds[tuple(row), tuple(late)] for late in some) for row in rows]
                one = check_leaves_arguments(self, center, house, some)
                self.assertEqual(most[rows.index(one)], min(most))
                for row, wanted in zip(rows, most):
                    self.assertIs(check_leaves_arguments(self, is_center, house, some, row), wanted == min(most))

    def test_small_classes_of_eight_places(self):
        house, row = House([2] * 7, [3, 2, 3, 2, 3, 2, 3, 2]), [1, 2, 1, 2, 1, 0, 1, 1]
        size = class_size(house, row)
        self.assertGreater(size, 50)
        rows = [row_in_class(house, row, at) for at in range(size)]
        some = rows[::size // 6][:7]
        one = center(house, some)
        most = [max(sum_of_deeds(house, [late], row) for late in some) for row in rows]
        self.assertEqual(most[rows.index(one)], min(most))
        self.assertEqual([is_center(house, some, row) for row in rows], [told == min(most) for told in most])


class WrongArguments(unittest.TestCase):
    def test_judges_any_object(self):
        check_refuses_objects(self, is_middle, [4, 1, 1], loose(), ROWS)
        check_refuses_objects(self, is_middle, [0, 1, 0, 1], tight(), [[0, 1, 0, 1]])
        check_refuses_objects(self, is_center, [1, 2, 1], loose(), ROWS)
        for value in wrong_rows() + [[0, 0, 0], [1, 0, 1]]:
            self.assertIs(check_leaves_arguments(self, is_middle, loose(), ROWS, value), False)
            self.assertIs(check_leaves_arguments(self, is_center, loose(), ROWS, value), False)
        for row in rows_of(tight()):
            self.assertIs(is_middle(tight(), [[0, 0, 1, 0]], row), row == [0, 0, 1, 0])
            self.assertIs(is_center(tight(), [[0, 0, 1, 0]], row), row == [0, 0, 1, 0])

    def test_wrong_arguments(self):
        for function in (middle_ends, least_sum, many_middles, center):
            check_wrong_arguments(self, function, a_house(loose()), a_rows())
            check_wrong_arguments(self, function, a_house(loose()), a_rows(ROWS[1:]))
        check_wrong_arguments(self, middle, a_house(loose()), a_rows(None, [ROWS[1:], ROWS * 2, ROWS + [[0, 0, 0]]]))
        check_wrong_arguments(self, sum_of_deeds, a_house(loose()), a_rows(), a_row([1, 2, 1]))
        for judge in (is_middle, is_center):
            check_judge(self, judge, [None, [4, 1, 1]], a_house(loose()), a_rows())

    def test_apart(self):
        first, last = [0, 0, 0], [4, 3, 2]
        rows = [ROWS[0], ROWS[1], first, last, first]
        for function in (middle, middle_ends, least_sum, many_middles, center):
            expect_error(self, Apart, first, function, loose(), rows)
            expect_error(self, Apart, rows[1], function, loose(), [first, rows[1], rows[0]])
        for judge in (is_middle, is_center):
            for value in (None, ROWS[0], first):
                expect_error(self, Apart, first, judge, loose(), rows, value)
        expect_error(self, Apart, first, sum_of_deeds, loose(), rows, ROWS[0])
        expect_error(self, Apart, first, sum_of_deeds, loose(), rows, last)
        expect_error(self, Apart, last, sum_of_deeds, loose(), ROWS, last)
        # Apart comes behind all other errors.
        for wrong in wrong_rows():
            expect_error(self, InvalidRow, wrong, sum_of_deeds, loose(), rows, wrong)
        for wrong in (rows + [None], rows + [[5, 0, 0]]):
            expect_error(self, InvalidRows, wrong, sum_of_deeds, loose(), wrong, last)
            expect_error(self, InvalidRows, wrong, center, loose(), wrong)
        even = rows[:4]
        expect_error(self, InvalidRows, even, middle, loose(), even)

    def test_fresh(self):
        check_fresh(self, middle, loose(), ROWS)
        check_fresh(self, middle, loose(), [ROWS[0]])
        check_fresh(self, middle_ends, loose(), ROWS)
        check_fresh(self, middle_ends, House([], [5]), [[3]])
        check_fresh(self, center, loose(), ROWS)
        check_fresh(self, center, loose(), [ROWS[0]])


if __name__ == "__main__":
    unittest.main()

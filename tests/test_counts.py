"""Points [2] and [53] to [58]: the functions of carryways.counts."""

import unittest

from carryways.counts import (
    by_things, class_at, class_place, class_size, classes_of_worth, crowded_row, greatest_size, is_crowded_row,
    is_row_of_things, many_alone, many_classes, many_deeds, place_in_class, row_in_class, row_of_things, rows_of_worth,
)
from carryways.errors import InvalidNumber
from carryways.houses import House, whole_worth
from tests.plain import classes_by_hand, let_by_hand, many_small_houses, part_worths_by_hand, worth
from tests.support import (
    Argument, a_house, a_row, check_fresh, check_judge, check_leaves_arguments, check_refuses_objects,
    check_wrong_arguments, expect_error, loose, rows_of, small_houses, tight, wrong_counts, wrong_numbers, wrong_rows,
)

ROW = [4, 1, 1]


def houses_and_classes():
    """Houses of few rows, each with its classes in the order of their part worths."""
    houses = small_houses() + many_small_houses() + [House([2, 2], [9, 5, 2]), House([3, 2], [7, 4, 3])]
    return [
        (house, sorted(classes_by_hand(house), key=lambda rows: part_worths_by_hand(house, rows[0])))
        for house in houses]


HOUSES = houses_and_classes()


def a_number(good, wrong, name="number"):
    return Argument(name, good, InvalidNumber, wrong)


class Classes(unittest.TestCase):
    """[53], [54]"""

    def test_against_all_classes(self):
        for house, classes in HOUSES:
            self.assertEqual(check_leaves_arguments(self, many_classes, house), len(classes))
            for number, rows in enumerate(classes):
                self.assertIn(check_leaves_arguments(self, class_at, house, number), rows)
                for row in rows:
                    self.assertEqual(check_leaves_arguments(self, class_place, house, row), number)
            for wrong in (len(classes), -1, 10 ** 29):
                expect_error(self, InvalidNumber, wrong, class_at, house, wrong)

    def test_against_all_rows_of_the_class(self):
        for house, classes in HOUSES:
            for rows in classes:
                for number, row in enumerate(rows):
                    self.assertEqual(check_leaves_arguments(self, class_size, house, row), len(rows))
                    self.assertEqual(check_leaves_arguments(self, place_in_class, house, row), number)
                    for at in range(0, len(rows), 1 + len(rows) // 5):
                        self.assertEqual(check_leaves_arguments(self, row_in_class, house, row, at), rows[at])
                for wrong in (len(rows), -1, 10 ** 29):
                    expect_error(self, InvalidNumber, wrong, row_in_class, house, rows[-1], wrong)

    def test_great_houses(self):
        for base in (2, 3, 30, 60):
            house, row = House([base] * 7, [60] * 8), [31, 60, 0, 44, 7, 59, 1, 30]
            self.assertEqual(many_classes(house), whole_worth(house) + 1)
            self.assertEqual(class_place(house, class_at(house, class_place(house, row))), worth(house, row))
            size = class_size(house, row)
            self.assertEqual(rows_of_worth(house, worth(house, row)), size)
            self.assertEqual(row_in_class(house, row, place_in_class(house, row)), row)
            for number in (0, size // 3, size - 1):
                late = row_in_class(house, row, number)
                self.assertEqual([place_in_class(house, late), class_size(house, late)], [number, size])
            told = by_things(house, row)
            self.assertEqual([sum(told.values()), list(told)], [size, sorted(told)])
            for number in list(told)[::7]:
                self.assertIs(is_row_of_things(house, row, number, row_of_things(house, row, number)), True)

    def test_wrong_arguments(self):
        check_wrong_arguments(self, many_classes, a_house(loose()))
        check_wrong_arguments(self, class_at, a_house(loose()), a_number(25, wrong_counts() + [26, 10 ** 20]))
        for function in (class_place, class_size, place_in_class, by_things):
            check_wrong_arguments(self, function, a_house(loose()), a_row(ROW))
        number = a_number(3, wrong_counts() + [4, 10 ** 20])
        check_wrong_arguments(self, row_in_class, a_house(loose()), a_row(ROW), number)
        for wrong in [1, -1, True, None]:
            expect_error(self, InvalidNumber, wrong, row_in_class, House([], [5]), [3], wrong)


class Things(unittest.TestCase):
    """[55]"""

    def test_against_all_rows_of_the_class(self):
        for house, classes in HOUSES[::2] + HOUSES[-2:]:
            for rows in classes:
                row, things = rows[len(rows) // 2], [sum(late) for late in rows]
                wanted = [(number, things.count(number)) for number in sorted(set(things))]
                told = check_leaves_arguments(self, by_things, house, row)
                self.assertEqual(list(told.items()), wanted)
                for number in range(-1, max(things) + 2):
                    late = check_leaves_arguments(self, row_of_things, house, row, number)
                    if number in things:
                        self.assertTrue(late in rows and sum(late) == number)
                    else:
                        self.assertIsNone(late)
                    for other in rows[:3] + rows_of(house)[::41]:
                        is_so = other in rows and sum(other) == number
                        self.assertIs(
                            check_leaves_arguments(self, is_row_of_things, house, row, number, other), is_so)

    def test_numbers_that_no_row_has(self):
        for number in (-10 ** 29, -1, 0, 2, 5, 8, 10 ** 29):
            self.assertIsNone(row_of_things(loose(), ROW, number))
            for value in (None, ROW, [0, 0, 0]):
                self.assertIs(is_row_of_things(loose(), ROW, number, value), False)

    def test_judges_any_object(self):
        check_refuses_objects(self, is_row_of_things, [1, 2, 1], loose(), ROW, 4)
        check_refuses_objects(self, is_row_of_things, [1, 0, 2], loose(), ROW, 3)
        for value in wrong_rows() + [[0, 2, 2], [4, 0, 0], ROW]:
            self.assertIs(check_leaves_arguments(self, is_row_of_things, loose(), ROW, 4, value), False)

    def test_wrong_arguments(self):
        number = a_number(4, wrong_numbers())
        check_wrong_arguments(self, row_of_things, a_house(loose()), a_row(ROW), number)
        check_judge(self, is_row_of_things, [None, [1, 2, 1]], a_house(loose()), a_row(ROW), number)


class Whole(unittest.TestCase):
    """[56] to [58]"""

    def test_against_all_rows(self):
        for house, classes in HOUSES:
            deeds = [len(let_by_hand(house, row)) for row in rows_of(house)]
            self.assertEqual(check_leaves_arguments(self, many_alone, house), deeds.count(0))
            self.assertEqual(check_leaves_arguments(self, many_deeds, house), sum(deeds))
            worths = [worth(house, row) for row in rows_of(house)]
            of_classes = [worth(house, rows[0]) for rows in classes]
            for number in range(-2, max(worths) + 3):
                told = check_leaves_arguments(self, rows_of_worth, house, number)
                self.assertEqual(told, worths.count(number))
                told = check_leaves_arguments(self, classes_of_worth, house, number)
                self.assertEqual(told, of_classes.count(number))

    def test_greatest_size(self):
        for house, classes in HOUSES:
            most = max(len(rows) for rows in classes)
            self.assertEqual(check_leaves_arguments(self, greatest_size, house), most)
            self.assertEqual(class_size(house, check_leaves_arguments(self, crowded_row, house)), most)
            for rows in classes:
                for row in rows[:3]:
                    told = check_leaves_arguments(self, is_crowded_row, house, row)
                    self.assertIs(told, len(rows) == most)

    def test_houses_of_no_deeds(self):
        for house, many in ((House([], [5]), 6), (House([2, 2], [1, 1, 1]), 8), (House([60] * 7, [0] * 8), 1)):
            self.assertEqual([many_alone(house), many_deeds(house), greatest_size(house)], [many, 0, 1])

    def test_great_houses(self):
        house = House([60] * 7, [60] * 8)
        self.assertEqual([rows_of_worth(house, 0), rows_of_worth(house, 60), rows_of_worth(house, 10 ** 29)], [1, 2, 0])
        # Each count but 59 and 60 fits beside one that is one less only in one way.
        self.assertEqual(many_deeds(House([60], [60, 60])), 2 * 60)
        self.assertEqual(many_deeds(house), 7 * 2 * 60 * 61 ** 6)
        stiff = House([60] * 7, [59] * 8)
        self.assertEqual([many_alone(stiff), many_deeds(stiff), many_classes(stiff)], [60 ** 8, 0, 60 ** 8])
        self.assertEqual(classes_of_worth(stiff, 60 ** 8 - 1), 1)
        # Parts of a whole room's worth of near 2,000 each.
        near = House([2, 2, 2, 2, 2, 2, 60], [60, 60, 60, 30, 2, 1, 60, 60])
        crowded = crowded_row(near)
        self.assertEqual([class_size(near, crowded), is_crowded_row(near, crowded)], [greatest_size(near), True])

    def test_classes_of_one_worth_in_loose_parts(self):
        # What the first part holds may be worth more than one thing behind it.
        house = House([2, 3, 2], [5, 2, 1, 3])
        worths = [worth(house, rows[0]) for rows in classes_by_hand(house)]
        self.assertGreater(max(worths.count(number) for number in worths), 1)
        for number in range(whole_worth(house) + 1):
            self.assertEqual(classes_of_worth(house, number), worths.count(number))

    def test_judges_any_object(self):
        check_refuses_objects(self, is_crowded_row, crowded_row(loose()), loose())
        check_refuses_objects(self, is_crowded_row, crowded_row(tight()), tight())
        for value in wrong_rows() + [[0, 0, 0], [4, 3, 2]]:
            self.assertIs(check_leaves_arguments(self, is_crowded_row, loose(), value), False)

    def test_wrong_arguments(self):
        for function in (many_alone, many_deeds, greatest_size, crowded_row):
            check_wrong_arguments(self, function, a_house(loose()))
        for function in (rows_of_worth, classes_of_worth):
            check_wrong_arguments(self, function, a_house(loose()), a_number(13, wrong_numbers(), "worth"))
        check_judge(self, is_crowded_row, [None, ROW], a_house(loose()))


class Fresh(unittest.TestCase):
    def test_fresh(self):
        check_fresh(self, class_at, tight(), 3)
        check_fresh(self, row_in_class, loose(), ROW, 2)
        check_fresh(self, row_in_class, loose(), [0, 0, 0], 0)
        check_fresh(self, by_things, loose(), ROW)
        check_fresh(self, row_of_things, loose(), ROW, 6)
        check_fresh(self, crowded_row, loose())


if __name__ == "__main__":
    unittest.main()

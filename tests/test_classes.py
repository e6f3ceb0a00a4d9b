"""Points [2] and [22] to [28]: the functions of carryways.classes."""

import unittest

from carryways.classes import (
    carried, carries, closest_parts, coarse_row, greater_of, greatest_first, house_of_parts, is_why_apart, joined,
    lesser_of, part_worths, parts, row_of_class, stiff_places, why_apart,
)
from carryways.errors import InvalidCarries, InvalidNumber, InvalidWorths
from carryways.houses import House, whole_worth
from tests.plain import (
    classes_by_hand, many_small_houses, part_worths_by_hand, parts_by_hand, ways_from, weights_by_hand, worth,
)
from tests.support import (
    Argument, a_house, a_row, check_apart, check_fresh, check_judge, check_leaves_arguments, check_refuses_objects,
    check_wrong_arguments, expect_error, loose, rows_of, small_houses, tight, wrong_carries, wrong_counts, wrong_worths,
)

ONE, OTHER = [4, 1, 1], [1, 0, 2]


def two_rows():
    return [a_house(loose()), a_row(ONE, "one"), a_row(OTHER, "other")]


class Parts(unittest.TestCase):
    """[22]"""

    def test_against_places_that_no_deed_crosses(self):
        for house in many_small_houses():
            cut = parts_by_hand(house)
            self.assertEqual(check_leaves_arguments(self, parts, house), cut)
            self.assertEqual(check_leaves_arguments(self, stiff_places, house), [last for _, last in cut[:-1]])
            for row in rows_of(house):
                worths = part_worths_by_hand(house, row)
                self.assertEqual(check_leaves_arguments(self, part_worths, house, row), worths)

    def test_edges(self):
        self.assertEqual([parts(House([], [0])), stiff_places(House([], [0]))], [[(0, 0)], []])
        self.assertEqual(part_worths(House([], [5]), [3]), [3])
        # A room of just the base is not stiff, one thing less is, however much room the last place has.
        self.assertEqual(stiff_places(House([3, 3], [3, 2, 0])), [1])
        self.assertEqual(parts(House([3, 3], [3, 2, 0])), [(0, 1), (2, 2)])
        self.assertEqual(parts(House([2, 2, 2], [1, 0, 1, 60])), [(0, 0), (1, 1), (2, 2), (3, 3)])
        self.assertEqual(part_worths(House([5, 4, 3], [4, 9, 9, 1]), [4, 3, 2, 1]), [4, 3 + 8 + 12])

    def test_a_whole_room_of_each_number(self):
        for house in many_small_houses():
            told = sorted(set(tuple(part_worths(house, row)) for row in rows_of(house)))
            many = 1
            for room in house_of_parts(house).rooms():
                many *= room + 1
            self.assertEqual(len(told), many)

    def test_wrong_arguments(self):
        for function in (stiff_places, parts, house_of_parts):
            check_wrong_arguments(self, function, a_house(loose()))
        for function in (part_worths, coarse_row):
            check_wrong_arguments(self, function, a_house(loose()), a_row(ONE))

    def test_fresh(self):
        for function in (stiff_places, parts):
            check_fresh(self, function, tight())
        check_fresh(self, part_worths, tight(), [3, 0, 1, 1])


class Joined(unittest.TestCase):
    """[23]"""

    def test_against_chains(self):
        for house in small_houses() + many_small_houses():
            rows = rows_of(house)
            for one in rows[::1 + len(rows) // 30]:
                reached = ways_from(house, one)
                for other in rows:
                    self.assertIs(joined(house, one, other), tuple(other) in reached)

    def test_why_apart(self):
        for house in small_houses():
            for one in rows_of(house)[::7]:
                for other in rows_of(house):
                    cut = parts_by_hand(house)
                    worths = zip(cut, part_worths_by_hand(house, one), part_worths_by_hand(house, other))
                    whys = [why for why in worths if why[1] != why[2]]
                    told = check_leaves_arguments(self, why_apart, house, one, other)
                    self.assertIs(told is None, joined(house, one, other))
                    self.assertTrue(told in whys if whys else told is None)
                    for first, last in cut + [(0, house.places() - 1), (0, house.places())]:
                        for early in range(4):
                            for late in range(4):
                                value = ((first, last), early, late)
                                self.assertIs(is_why_apart(house, one, other, value), value in whys)

    def test_is_why_apart_judges_any_object(self):
        one, other = [0, 0, 0, 1], [0, 0, 1, 0]
        check_refuses_objects(self, is_why_apart, ((3, 3), 1, 0), tight(), one, other)
        check_refuses_objects(self, is_why_apart, ((2, 2), 0, 1), tight(), one, other)
        check_refuses_objects(self, is_why_apart, ((0, 1), 3, 1), tight(), [3, 0, 0, 0], [1, 0, 0, 0])
        for value in [((3, 3), 0, 1), ((2, 2), 1, 0), ((0, 1), 0, 0), ((2, 3), 1, 2), ((3, 3), 1), ((3, 3), 1, 0, 0)]:
            self.assertIs(is_why_apart(tight(), one, other, value), False)
        self.assertIs(is_why_apart(tight(), one, list(one), None), False)

    def test_wrong_arguments(self):
        for function in (joined, why_apart, closest_parts):
            check_wrong_arguments(self, function, *two_rows())
        check_judge(self, is_why_apart, [None, ((0, 2), 13, 14)], *two_rows())


class Carries(unittest.TestCase):
    """[24], [27]"""

    def test_against_chains(self):
        for house in many_small_houses():
            for rows in classes_by_hand(house):
                for one in rows:
                    reached = ways_from(house, one)
                    for other in rows:
                        length, _, outs = reached[tuple(other)]
                        told = check_leaves_arguments(self, carries, house, one, other)
                        self.assertEqual(told, list(outs))
                        self.assertEqual(sum(abs(out) for out in told), length)
                        self.assertEqual(check_leaves_arguments(self, carried, house, one, told), other)

    def test_lesser_and_greater_of(self):
        for house in many_small_houses():
            for rows in classes_by_hand(house):
                reached = {tuple(one): ways_from(house, one) for one in rows}
                for one in rows:
                    for other in rows:
                        outs = reached[tuple(one)][tuple(other)][2]
                        for function, choice in ((lesser_of, min), (greater_of, max)):
                            wanted = tuple(choice(0, out) for out in outs)
                            late = check_leaves_arguments(self, function, house, one, other)
                            self.assertEqual(reached[tuple(one)][tuple(late)][2], wanted)

    def test_carried_by_the_formula_alone(self):
        # Also across a stiff place, where no chain leads.
        self.assertEqual(carried(House([3, 2], [2, 3, 2]), [2, 1, 1], [0, -1]), [2, 3, 0])
        self.assertEqual(carried(House([2, 2], [4, 1, 1]), [2, 1, 0], [1, 1]), [0, 0, 1])
        self.assertEqual(carried(House([2, 2], [4, 1, 1]), [2, 1, 0], [1, 0]), None)
        self.assertEqual(carried(House([], [5]), [3], []), [3])
        for house in small_houses():
            bases, places = house.bases(), house.places()
            for row in rows_of(house)[::5]:
                for outs in [[k] * (places - 1) for k in (-2, -1, 0, 1, 10 ** 20)] + [[1, -1, 2][:places - 1]]:
                    into, out = [0] + outs, outs + [0]
                    wanted = [row[i] - (bases + [1])[i] * out[i] + into[i] for i in range(places)]
                    fits = all(0 <= count <= room for count, room in zip(wanted, house.rooms()))
                    self.assertEqual(carried(house, row, outs), wanted if fits else None)

    def test_apart(self):
        for function in (carries, lesser_of, greater_of):
            check_apart(self, function, loose(), ONE, [4, 2, 1])
            check_apart(self, function, loose(), ONE, [0, 0, 0])
            # Of the same worth, and apart all the same.
            check_apart(self, function, House([3, 2], [2, 3, 2]), [2, 2, 0], [2, 0, 0])
            check_apart(self, function, House([2, 2], [3, 1, 2]), [3, 1, 0], [1, 0, 1])

    def test_wrong_arguments(self):
        for function in (carries, lesser_of, greater_of):
            check_wrong_arguments(self, function, *two_rows())
        outs = Argument("carries", [1, 0], InvalidCarries, wrong_carries())
        check_wrong_arguments(self, carried, a_house(loose()), a_row(ONE), outs)
        for wrong in [[0], None, (), [True]]:
            expect_error(self, InvalidCarries, wrong, carried, House([], [5]), [3], wrong)

    def test_fresh(self):
        for function in (carries, lesser_of, greater_of):
            check_fresh(self, function, loose(), ONE, OTHER)
            check_fresh(self, function, loose(), ONE, list(ONE))
        check_fresh(self, carried, loose(), ONE, [0, 0])


class Coarse(unittest.TestCase):
    """[25], [28]"""

    def test_rows_of_the_house_of_parts_are_the_classes(self):
        for house in small_houses() + many_small_houses():
            coarse = check_leaves_arguments(self, house_of_parts, house)
            weights, cut = weights_by_hand(house.bases()), parts_by_hand(house)
            firsts = [weights[first] for first, _ in cut]
            self.assertEqual(weights_by_hand(coarse.bases()), firsts)
            self.assertEqual(coarse.rooms(), part_worths_by_hand(house, house.rooms()))
            told = []
            for rows in classes_by_hand(house):
                told.append(coarse_row(house, rows[0]))
                for row in rows:
                    self.assertEqual(check_leaves_arguments(self, coarse_row, house, row), told[-1])
                    self.assertEqual(worth(coarse, told[-1]), worth(house, row))
            self.assertEqual(sorted(told), rows_of(coarse))

    def test_the_house_of_parts_may_be_passed_again(self):
        house = House([60, 2, 60, 60, 2, 60, 60], [60, 1, 60, 60, 60, 60, 59, 60])
        coarse = house_of_parts(house)
        self.assertEqual(parts(house), [(0, 1), (2, 6), (7, 7)])
        self.assertEqual(coarse.bases(), [120, 60 * 60 * 2 * 60 * 60])
        self.assertEqual(whole_worth(coarse), whole_worth(house))
        # What parts hold together may be more than the next one's weight: then the house of parts is loose.
        self.assertEqual(parts(coarse), [(0, 2)])
        row = [33, 1, 7, 8, 9, 10, 11, 12]
        found = row_of_class(coarse, part_worths(coarse, coarse_row(house, row)))
        self.assertEqual(worth(coarse, found), worth(house, row))
        self.assertEqual(part_worths(coarse, found), part_worths(coarse, coarse_row(house, row)))
        self.assertEqual(house_of_parts(House([], [5])), House([], [5]))

    def test_closest_parts(self):
        for house in small_houses():
            for one in rows_of(house)[::5]:
                for other in rows_of(house):
                    worths = zip(part_worths_by_hand(house, one), part_worths_by_hand(house, other))
                    wanted = [late - early for early, late in worths]
                    self.assertEqual(check_leaves_arguments(self, closest_parts, house, one, other), wanted)

    def test_fresh(self):
        check_fresh(self, coarse_row, tight(), [3, 0, 1, 1])
        check_fresh(self, closest_parts, tight(), [3, 0, 1, 1], [0, 0, 0, 0])
        coarse = house_of_parts(tight())
        coarse.rooms().append(1)
        self.assertEqual(coarse, house_of_parts(tight()))


class Found(unittest.TestCase):
    """[26]"""

    def test_row_of_class(self):
        for house in small_houses() + many_small_houses():
            coarse = house_of_parts(house)
            for worths in rows_of(coarse):
                row = check_leaves_arguments(self, row_of_class, house, worths)
                self.assertIn(row, rows_of(house))
                self.assertEqual(part_worths_by_hand(house, row), worths)
                for at, room in enumerate(coarse.rooms()):
                    # One too great is worths, but of no row.
                    self.assertIsNone(row_of_class(house, worths[:at] + [room + 1] + worths[at + 1:]))
                    self.assertIsNone(row_of_class(house, worths[:at] + [10 ** 29] + worths[at + 1:]))

    def test_greatest_first(self):
        for house in small_houses() + many_small_houses():
            rows = {}
            for row in rows_of(house):
                rows.setdefault(worth(house, row), []).append(row)
            for number in range(whole_worth(house) + 3):
                told = check_leaves_arguments(self, greatest_first, house, number)
                if number not in rows:
                    self.assertIsNone(told)
                    continue
                self.assertIn(told, rows[number])
                others = [sum(row) for row in rows[number] if row != told]
                self.assertTrue(all(things > sum(told) for things in others))

    def test_great_numbers(self):
        house = House([60] * 7, [60] * 8)
        self.assertEqual(greatest_first(house, whole_worth(house)), [60] * 8)
        self.assertIsNone(greatest_first(house, whole_worth(house) + 1))
        self.assertIsNone(greatest_first(house, 10 ** 30 - 1))
        self.assertEqual(row_of_class(house, [60 ** 7 * 59 + 61]), [1, 1, 0, 0, 0, 0, 0, 59])
        self.assertEqual(greatest_first(House([], [0]), 0), [0])

    def test_wrong_arguments(self):
        worths = Argument("worths", [3, 1, 1], InvalidWorths, wrong_worths())
        check_wrong_arguments(self, row_of_class, a_house(tight()), worths)
        check_wrong_arguments(
            self, greatest_first, a_house(loose()), Argument("worth", 13, InvalidNumber, wrong_counts()))

    def test_fresh(self):
        check_fresh(self, row_of_class, tight(), [3, 1, 1])
        check_fresh(self, greatest_first, tight(), 11)


if __name__ == "__main__":
    unittest.main()

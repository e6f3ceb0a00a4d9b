"""Points [2] and [10] to [15]: houses, and the functions of carryways.houses."""

import unittest

from carryways.errors import InvalidBases, InvalidHouse, InvalidNumber, InvalidPlace, InvalidRooms, Unlike
from carryways.houses import (
    House, greater_house, held_up_to, is_within, lesser_house, many_rows, number_of, row_at, set_behind, stretch,
    tightened, weights, whole_worth, with_room,
)
from tests.support import (
    SMALL, Argument, a_house, a_row, check_fresh, check_leaves_arguments, check_wrong_arguments, expect_error, loose,
    rows_of, small_houses, tight, wrong_base, wrong_bases, wrong_counts, wrong_houses, wrong_places, wrong_rooms,
)


def sides(house):
    return (house.bases(), house.rooms())


class Houses(unittest.TestCase):
    """[10]"""

    def test_tells_what_it_is_made_of(self):
        for bases, rooms in SMALL:
            house = House(bases, rooms)
            self.assertEqual(sides(house), (bases, rooms))
            self.assertEqual(house.places(), len(rooms))
            self.assertEqual(sides(House(rooms=rooms, bases=bases)), (bases, rooms))

    def test_wrong_bases_and_rooms(self):
        check_wrong_arguments(
            self, House,
            Argument("bases", [3, 2], InvalidBases, wrong_bases()),
            Argument("rooms", [4, 3, 2], InvalidRooms, wrong_rooms()))

    def test_rooms_of_a_house_of_one_place(self):
        for rooms in [[], [1, 2], [-1], [True], (1,), None, 1]:
            expect_error(self, InvalidRooms, rooms, House, [], rooms)

    def test_edges_that_are_right(self):
        self.assertEqual(House([2], [0, 0]).rooms(), [0, 0])
        self.assertEqual(House([], [0]).places(), 1)
        # Beyond the limits no error is raised for this alone.
        self.assertEqual(House([61] * 9, [61] * 10).places(), 10)
        self.assertEqual(House([10 ** 30], [10 ** 30, 0]).bases(), [10 ** 30])

    def test_lists_that_were_passed_may_be_changed(self):
        bases, rooms = [3, 2], [4, 3, 2]
        house = House(bases, rooms)
        bases.append(7)
        rooms[0] = 60
        self.assertEqual(sides(house), ([3, 2], [4, 3, 2]))

    def test_lists_that_were_returned_may_be_changed(self):
        house = loose()
        house.bases().append(7)
        house.rooms()[0] = 60
        self.assertEqual(sides(house), ([3, 2], [4, 3, 2]))
        self.assertEqual(house, loose())

    def test_equal_exactly_if_both_lists_are(self):
        for first in SMALL:
            for second in SMALL:
                self.assertEqual(House(*first) == House(*second), first == second)
                self.assertEqual(House(*first) != House(*second), first != second)
        self.assertFalse(House([3, 2], [4, 3, 2]) == House([3, 3], [4, 3, 2]))
        self.assertFalse(House([3, 2], [4, 3, 2]) == House([3, 2], [4, 3, 1]))

    def test_never_equal_to_another_object(self):
        for value in wrong_houses() + [([3, 2], [4, 3, 2]), [[3, 2], [4, 3, 2]]]:
            if not isinstance(value, House):
                self.assertFalse(loose() == value)
                self.assertFalse(value == loose())
                self.assertTrue(loose() != value)


class Weights(unittest.TestCase):
    """[11]"""

    def test_by_their_meaning(self):
        for house in small_houses():
            expected = [1]
            for place, base in enumerate(house.bases()):
                expected.append(expected[place] * base)
            told = check_leaves_arguments(self, weights, house)
            self.assertEqual(told, expected)
            held = [sum(house.rooms()[at] * told[at] for at in range(place + 1)) for place in range(house.places())]
            self.assertEqual(held_up_to(house), held)
            self.assertEqual(whole_worth(house), held[-1])
            for function in (weights, held_up_to):
                check_fresh(self, function, house)

    def test_some_by_hand(self):
        self.assertEqual(weights(House([], [5])), [1])
        self.assertEqual(held_up_to(House([], [0])), [0])
        self.assertEqual(whole_worth(House([], [5])), 5)
        self.assertEqual(weights(tight()), [1, 2, 6, 12])
        self.assertEqual(held_up_to(tight()), [3, 5, 11, 35])
        self.assertEqual(whole_worth(House([12, 20], [11, 19, 5])), 11 + 19 * 12 + 5 * 240)

    def test_wrong_houses(self):
        for function in (weights, held_up_to, whole_worth, many_rows):
            check_wrong_arguments(self, function, a_house(loose()))


class Positions(unittest.TestCase):
    """[12]"""

    def test_all_rows_of_small_houses(self):
        for house in small_houses():
            rows = rows_of(house)
            self.assertEqual(rows, sorted(rows))
            self.assertEqual(many_rows(house), len(rows))
            for at, row in enumerate(rows):
                self.assertEqual(check_leaves_arguments(self, row_at, house, at), row)
                self.assertEqual(check_leaves_arguments(self, number_of, house, row), at)

    def test_first_and_last_position(self):
        for house in small_houses():
            self.assertEqual(row_at(house, 0), [0] * house.places())
            self.assertEqual(row_at(house, many_rows(house) - 1), house.rooms())
            self.assertEqual(number_of(house, house.rooms()), many_rows(house) - 1)
            for number in (many_rows(house), many_rows(house) + 1, -1):
                expect_error(self, InvalidNumber, number, row_at, house, number)

    def test_great_houses_answer_at_once(self):
        house = House([60] * 7, [60] * 8)
        self.assertEqual(many_rows(house), 61 ** 8)
        for number in (0, 1, 60, 61, 61 ** 7 - 1, 61 ** 7, 12345678901234, 61 ** 8 - 1):
            row = row_at(house, number)
            self.assertEqual(number_of(house, row), number)
            self.assertEqual(sum(count * 61 ** (7 - place) for place, count in enumerate(row)), number)
        self.assertLess(row_at(house, 61 ** 5), row_at(house, 61 ** 5 + 1))

    def test_wrong_arguments(self):
        numbers = wrong_counts() + [60, 61, 10 ** 20]
        check_wrong_arguments(self, row_at, a_house(loose()), Argument("number", 37, InvalidNumber, numbers))
        check_wrong_arguments(self, number_of, a_house(loose()), a_row([4, 1, 1]))

    def test_fresh(self):
        check_fresh(self, row_at, loose(), 37)


class TwoHouses(unittest.TestCase):
    """[13]"""

    def test_all_rooms_of_some_bases(self):
        rooms = rows_of(House([2], [3, 2]))
        for first in rooms:
            for second in rooms:
                one, other = House([3], first), House([3], second)
                within = first[0] <= second[0] and first[1] <= second[1]
                self.assertIs(check_leaves_arguments(self, is_within, one, other), within)
                lesser = check_leaves_arguments(self, lesser_house, one, other)
                greater = check_leaves_arguments(self, greater_house, one, other)
                self.assertEqual(sides(lesser), ([3], [min(first[at], second[at]) for at in range(2)]))
                self.assertEqual(sides(greater), ([3], [max(first[at], second[at]) for at in range(2)]))

    def test_other_bases(self):
        for one, other in [(loose(), tight()), (loose(), House([2, 3], [4, 3, 2])), (loose(), House([3], [4, 3]))]:
            self.assertIs(is_within(one, other), False)
            self.assertIs(is_within(other, one), False)
            for function in (lesser_house, greater_house):
                expect_error(self, Unlike, other, function, one, other)
                expect_error(self, Unlike, one, function, other, one)

    def test_itself(self):
        for house in small_houses():
            self.assertIs(is_within(house, house), True)
            self.assertEqual(lesser_house(house, house), house)
            self.assertEqual(greater_house(house, house), house)

    def test_wrong_arguments(self):
        for function in (is_within, lesser_house, greater_house):
            check_wrong_arguments(self, function, a_house(loose(), "one"), a_house(loose(), "other"))

    def test_no_house_comes_ahead_of_unlike(self):
        for function in (lesser_house, greater_house):
            expect_error(self, InvalidHouse, 5, function, 5, tight())
            expect_error(self, InvalidHouse, 5, function, tight(), 5)


class OtherRooms(unittest.TestCase):
    """[14], [15]"""

    def test_with_room(self):
        for house in small_houses():
            for place in range(house.places()):
                for room in (0, 1, 7, 60, 1000):
                    late = check_leaves_arguments(self, with_room, house, place, room)
                    rooms = house.rooms()
                    rooms[place] = room
                    self.assertEqual(sides(late), (house.bases(), rooms))

    def test_stretch(self):
        for house in small_houses():
            for first in range(house.places()):
                for last in range(house.places()):
                    if last < first:
                        expect_error(self, InvalidPlace, last, stretch, house, first, last)
                        continue
                    short = check_leaves_arguments(self, stretch, house, first, last)
                    bases = [house.bases()[at] for at in range(first, last)]
                    self.assertEqual(sides(short), (bases, [house.rooms()[at] for at in range(first, last + 1)]))

    def test_set_behind(self):
        for one in small_houses():
            for other in small_houses():
                late = check_leaves_arguments(self, set_behind, one, 2, other)
                self.assertEqual(sides(late), (one.bases() + [2] + other.bases(), one.rooms() + other.rooms()))
                self.assertEqual(stretch(late, 0, one.places() - 1), one)
                self.assertEqual(stretch(late, one.places(), late.places() - 1), other)

    def test_returned_houses_may_be_passed_beyond_the_limits(self):
        house = House([60] * 7, [60] * 8)
        twice = set_behind(house, 2, set_behind(house, 60, house))
        self.assertEqual(twice.places(), 24)
        self.assertEqual(number_of(twice, row_at(twice, 61 ** 20)), 61 ** 20)

    def test_tightened(self):
        self.assertEqual(tightened(loose(), 0).rooms(), [2, 3, 2])
        self.assertEqual(tightened(loose(), 1).rooms(), [4, 1, 2])
        for room in range(5):
            late = check_leaves_arguments(self, tightened, House([3], [room, 9]), 0)
            self.assertEqual(sides(late), ([3], [min(room, 2), 9]))

    def test_the_last_place_is_not_tightened(self):
        for house in small_houses():
            last = house.places() - 1
            expect_error(self, InvalidPlace, last, tightened, house, last)
            for place in range(last):
                self.assertLess(tightened(house, place).rooms()[place], house.bases()[place])

    def test_wrong_arguments(self):
        place = Argument("place", 1, InvalidPlace, wrong_places())
        room = Argument("room", 0, InvalidNumber, wrong_counts())
        check_wrong_arguments(self, with_room, a_house(loose()), place, room)
        first = Argument("first", 0, InvalidPlace, wrong_places())
        last = Argument("last", 2, InvalidPlace, wrong_places())
        check_wrong_arguments(self, stretch, a_house(loose()), first, last)
        base = Argument("base", 2, InvalidBases, wrong_base())
        check_wrong_arguments(self, set_behind, a_house(loose(), "one"), base, a_house(tight(), "other"))
        place = Argument("place", 1, InvalidPlace, wrong_places() + [2])
        check_wrong_arguments(self, tightened, a_house(loose()), place)

    def test_last_below_a_wrong_first(self):
        expect_error(self, InvalidPlace, 3, stretch, loose(), 3, 0)
        expect_error(self, InvalidHouse, None, stretch, None, 2, 0)


if __name__ == "__main__":
    unittest.main()

"""Points [2] and [36] to [40]: the functions of carryways.ends."""

import unittest

from carryways.ends import (
    carry_ranges, dead_places, farthest, farthest_deeds, greatest_row, is_farthest, least_row, most_deeds, thing_range,
)
from carryways.houses import House
from tests.plain import classes_by_hand, let_by_hand, many_small_houses, ways_from, weights_by_hand
from tests.support import (
    a_house, a_row, check_fresh, check_judge, check_leaves_arguments, check_refuses_objects, check_wrong_arguments,
    loose, rows_of, small_houses, tight,
)

ROW = [4, 1, 1]
WIDE = [House([2, 2], [8, 4, 4]), House([2, 2, 2], [4, 4, 3, 2]), House([3, 2, 2], [6, 4, 4, 1]), House([2], [30, 9])]


def houses_and_classes():
    return [(house, rows) for house in small_houses() + many_small_houses() + WIDE for rows in classes_by_hand(house)]


def range_by_the_formula(house, row, place):
    """The range of the carries at a place, as [36] tells it, of a house that is one part."""
    weights = weights_by_hand(house.bases())
    held = sum(count * weight for count, weight in zip(row, weights))
    whole = sum(room * weight for room, weight in zip(house.rooms(), weights))
    upto = sum(room * weight for room, weight in zip(house.rooms()[:place + 1], weights))
    own = sum(row[at] * weights[at] for at in range(place + 1, house.places())) // weights[place + 1]
    least = max(0, -((upto - held) // weights[place + 1]))
    greatest = min(held // weights[place + 1], (whole - upto) // weights[place + 1])
    return (least - own, greatest - own)


class Ends(unittest.TestCase):
    """[36] to [40]"""

    def test_against_all_rows_of_the_class(self):
        for house, rows in houses_and_classes():
            for row in rows[::1 + len(rows) // 4]:
                reached = ways_from(house, row)
                outs = {late: told[2] for late, told in reached.items()}
                columns = list(zip(*outs.values()))
                ranges = check_leaves_arguments(self, carry_ranges, house, row)
                self.assertEqual(ranges, [(min(column), max(column)) for column in columns])
                # Exactly all numbers between occur.
                for (low, high), column in zip(ranges, columns):
                    self.assertEqual(sorted(set(column)), list(range(low, high + 1)))
                least = check_leaves_arguments(self, least_row, house, row)
                greatest = check_leaves_arguments(self, greatest_row, house, row)
                self.assertEqual(list(outs[tuple(least)]), [low for low, _ in ranges])
                self.assertEqual(list(outs[tuple(greatest)]), [high for _, high in ranges])
                things = [sum(late) for late in rows]
                self.assertEqual(check_leaves_arguments(self, thing_range, house, row), (min(things), max(things)))
                self.assertEqual([things.count(sum(greatest)), sum(greatest)], [1, min(things)])
                self.assertEqual([things.count(sum(least)), sum(least)], [1, max(things)])

    def test_farthest(self):
        for house, rows in houses_and_classes():
            most = max(told[0] for row in rows for told in ways_from(house, row).values())
            for row in rows[::1 + len(rows) // 4]:
                self.assertEqual(check_leaves_arguments(self, farthest_deeds, house, row), most)
                reached = ways_from(house, row)
                own = max(told[0] for told in reached.values())
                self.assertEqual(check_leaves_arguments(self, most_deeds, house, row), own)
                self.assertEqual(reached[tuple(check_leaves_arguments(self, farthest, house, row))][0], own)
                for late in rows[:20] + rows_of(house)[::19]:
                    is_so = tuple(late) in reached and reached[tuple(late)][0] == own
                    self.assertIs(check_leaves_arguments(self, is_farthest, house, row, late), is_so)

    def test_dead_places(self):
        for house, rows in houses_and_classes():
            alive = {place for row in rows for _, place in let_by_hand(house, row)}
            wanted = [place for place in range(house.places() - 1) if place not in alive]
            for row in rows[::1 + len(rows) // 4]:
                self.assertEqual(check_leaves_arguments(self, dead_places, house, row), wanted)

    def test_one_part_by_the_formula(self):
        for house, rows in houses_and_classes():
            if all(room >= base for base, room in zip(house.bases(), house.rooms())):
                for row in rows[:4]:
                    wanted = [range_by_the_formula(house, row, place) for place in range(house.places() - 1)]
                    self.assertEqual(carry_ranges(house, row), wanted)

    def test_the_farthest_row_is_not_always_an_end(self):
        house = House([2, 2, 2], [4, 4, 3, 2])
        found = [
            row for row in rows_of(house) if not is_farthest(house, row, least_row(house, row))
            and not is_farthest(house, row, greatest_row(house, row))]
        self.assertNotEqual(found, [])
        for row in found:
            self.assertIs(is_farthest(house, row, farthest(house, row)), True)

    def test_edges(self):
        single = House([], [5])
        for function, told in ((carry_ranges, []), (least_row, [3]), (greatest_row, [3]), (farthest_deeds, 0),
                               (most_deeds, 0), (farthest, [3]), (dead_places, []), (thing_range, (3, 3))):
            self.assertEqual(function(single, [3]), told)
        # Everywhere stiff, and no room at all.
        for house in (House([2, 3], [1, 2, 9]), House([2, 2], [0, 0, 0])):
            for row in rows_of(house):
                self.assertEqual([carry_ranges(house, row), dead_places(house, row)], [[(0, 0), (0, 0)], [0, 1]])
                self.assertEqual([least_row(house, row), greatest_row(house, row), farthest(house, row)], [row] * 3)
                self.assertEqual([farthest_deeds(house, row), most_deeds(house, row)], [0, 0])
        # Loose, and all the same dead where nothing, or all, is there.
        self.assertEqual(dead_places(loose(), [0, 0, 0]), [0, 1])
        self.assertEqual(dead_places(loose(), [4, 3, 2]), [0, 1])

    def test_great_houses(self):
        for base in (2, 3, 30, 60):
            house = House([base] * 7, [60] * 8)
            row = [31, 60, 0, 44, 7, 59, 1, 30]
            least, greatest = least_row(house, row), greatest_row(house, row)
            self.assertEqual(thing_range(house, row), (sum(greatest), sum(least)))
            self.assertEqual(farthest_deeds(house, row), most_deeds(house, least))
            self.assertEqual(farthest(house, least), greatest)
            self.assertEqual([least_row(house, greatest), greatest_row(house, least)], [least, greatest])
            self.assertIs(is_farthest(house, row, farthest(house, row)), True)

    def test_is_farthest_judges_any_object(self):
        check_refuses_objects(self, is_farthest, [1, 0, 2], loose(), ROW)
        check_refuses_objects(self, is_farthest, [1, 1, 1, 1], tight(), [3, 0, 1, 1])
        for value in [[4, 3, 0], [4, 1, 1], [1, 0, 3], [1, 0, 1], [1, 0], [1, 0, 2, 0]]:
            self.assertIs(is_farthest(loose(), ROW, value), False)

    def test_wrong_arguments(self):
        for function in (carry_ranges, least_row, greatest_row, farthest_deeds, most_deeds, farthest, dead_places,
                         thing_range):
            check_wrong_arguments(self, function, a_house(loose()), a_row(ROW))
        check_judge(self, is_farthest, [None, [1, 0, 2]], a_house(loose()), a_row(ROW))

    def test_fresh(self):
        for function in (carry_ranges, least_row, greatest_row, farthest, dead_places):
            check_fresh(self, function, loose(), ROW)
            check_fresh(self, function, tight(), [3, 0, 1, 1])
            check_fresh(self, function, House([2, 2], [1, 1, 1]), [1, 0, 1])


if __name__ == "__main__":
    unittest.main()

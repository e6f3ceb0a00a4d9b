"""Points [2] and [46] to [52]: the functions of carryways.wishes."""

import random
import unittest
from itertools import product

from carryways.errors import InvalidHouse, InvalidPlace, InvalidRow, InvalidWish, Refused
from carryways.houses import House
from carryways.wishes import (
    barring_place, barring_places, deeds_to, held_at, is_meeting_row, is_met, is_nearest, is_wish, many_lots,
    meeting_ends, meeting_row, meets, nearest, pairs_at, rigid_places, same_lot, wish_house,
)
from tests.plain import (
    classes_by_hand, many_small_houses, part_worths_by_hand, parts_by_hand, ways_from, weights_by_hand,
)
from tests.support import (
    Argument, a_house, a_place, a_row, check_fresh, check_judge, check_leaves_arguments, check_refuses_objects,
    check_wrong_arguments, expect_error, loose, rows_of, small_houses, tight, wrong_places, wrong_rows, wrong_wishes,
)

ROW, SOME = [4, 1, 1], [(0, 4), (2, 3), (0, 2)]
NOTHING = [(0, 1), (0, 1), (0, 1)]


def a_wish(good=None):
    return Argument("wish", SOME if good is None else good, InvalidWish, wrong_wishes())


def all_wishes(house):
    """All wishes of a house."""
    ranges = [[(low, high) for high in range(room + 1) for low in range(high + 1)] for room in house.rooms()]
    return [list(wish) for wish in product(*ranges)]


def some_wishes(house, many):
    """Wishes of all kinds: some at random, of one number at each place, and of all rooms."""
    chance = random.Random(str(house.bases()) + str(house.rooms()))
    found = [[(0, room) for room in house.rooms()], [(room, room) for room in house.rooms()]]
    for _ in range(many):
        ends = [sorted((chance.randint(0, room), chance.randint(0, room))) for room in house.rooms()]
        found.append([(low, high) for low, high in ends])
        found.append([(low, low) for low, _ in ends])
    return found


def cases():
    """Houses, each with the rows of a class and a wish."""
    found = []
    for house in [House([], [2]), House([2], [3, 1]), House([2, 2], [2, 2, 1]), House([2, 2], [3, 1, 1])]:
        found += [(house, rows, wish) for rows in classes_by_hand(house) for wish in all_wishes(house)]
    for house in small_houses() + many_small_houses()[::2] + [House([2, 2, 2], [4, 4, 3, 2]), House([2, 2], [9, 5, 2])]:
        for rows in classes_by_hand(house):
            found += [(house, rows, wish) for wish in some_wishes(house, 2)]
    return found


CASES = cases()


def fits(row, wish):
    return all(low <= count <= high for count, (low, high) in zip(row, wish))


def bars_by_hand(house, row, wish):
    """The barring places, by the words of [47]."""
    weights, found = weights_by_hand(house.bases()), []
    for (first, last), worth in zip(parts_by_hand(house), part_worths_by_hand(house, row)):
        for place in range(first, last + 1):
            low = sum(wish[at][0] * weights[at] // weights[first] for at in range(first, place + 1))
            high = sum(wish[at][1] * weights[at] // weights[first] for at in range(first, place + 1))
            if place == last:
                barred = worth < low or worth > high
            else:
                barred = (worth - low) % (weights[place + 1] // weights[first]) > high - low
            found += [place] if barred else []
    return found


def lots_by_hand(house, rows, wish):
    """The lots that rows lie in, each a set of rows as tuples, by going from row to row."""
    lots = []
    for row in rows:
        if fits(row, wish) and not any(tuple(row) in lot for lot in lots):
            lots.append(set(ways_from(house, row, lambda late: fits(late, wish))))
    return lots


class Wishes(unittest.TestCase):
    """[46]"""

    def test_is_wish(self):
        for house in small_houses():
            for wish in some_wishes(house, 3):
                self.assertIs(check_leaves_arguments(self, is_wish, house, wish), True)
                for row in rows_of(house)[::5]:
                    self.assertIs(check_leaves_arguments(self, meets, house, row, wish), fits(row, wish))
        for value in wrong_wishes():
            self.assertIs(check_leaves_arguments(self, is_wish, loose(), value), False)
        check_refuses_objects(self, is_wish, SOME, loose())
        self.assertIs(is_wish(House([], [0]), [(0, 0)]), True)
        self.assertIs(is_wish(House([], [0]), [(0, 1)]), False)

    def test_wrong_arguments(self):
        check_judge(self, is_wish, [None, SOME], a_house(loose()))
        for function in (meets, is_met, barring_places, barring_place, meeting_row, meeting_ends, many_lots, deeds_to,
                         nearest):
            check_wrong_arguments(self, function, a_house(loose()), a_row(ROW), a_wish())
        for judge in (is_meeting_row, is_nearest):
            check_judge(self, judge, [None, [4, 3, 0]], a_house(loose()), a_row(ROW), a_wish())
        check_wrong_arguments(self, wish_house, a_house(loose()), a_wish())


class Met(unittest.TestCase):
    """[47], [48]"""

    def test_against_all_rows_of_the_class(self):
        for house, rows, wish in CASES:
            row = rows[len(wish) % len(rows)]
            meeting = [late for late in rows if fits(late, wish)]
            bars = bars_by_hand(house, row, wish)
            self.assertIs(check_leaves_arguments(self, is_met, house, row, wish), meeting != [])
            self.assertEqual(check_leaves_arguments(self, barring_places, house, row, wish), bars)
            self.assertIs(bars == [], meeting != [])
            told = check_leaves_arguments(self, barring_place, house, row, wish)
            self.assertTrue(told in bars if bars else told is None)
            late = check_leaves_arguments(self, meeting_row, house, row, wish)
            self.assertTrue(late in meeting if meeting else late is None)
            self.assertIs(is_meeting_row(house, row, wish, late), meeting != [])

    def test_judge_of_meeting_rows(self):
        for house, rows, wish in CASES[::9]:
            for late in rows_of(house)[::3] + rows:
                is_so = late in rows and fits(late, wish)
                self.assertIs(check_leaves_arguments(self, is_meeting_row, house, rows[0], wish, late), is_so)

    def test_ends(self):
        for house, rows, wish in CASES:
            row = rows[-1]
            outs = {tuple(late): told[2] for late, told in ways_from(house, row).items() if fits(late, wish)}
            told = check_leaves_arguments(self, meeting_ends, house, row, wish)
            if not outs:
                self.assertIsNone(told)
                continue
            columns = list(zip(*outs.values()))
            self.assertEqual(type(told), tuple)
            least, greatest = told
            self.assertEqual(outs[tuple(least)], tuple(min(column) for column in columns))
            self.assertEqual(outs[tuple(greatest)], tuple(max(column) for column in columns))

    def test_judges_any_object(self):
        check_refuses_objects(self, is_meeting_row, [1, 2, 1], loose(), ROW, SOME)
        for value in wrong_rows() + [[1, 0, 2], [4, 1, 1], [0, 2, 0]]:
            self.assertIs(check_leaves_arguments(self, is_meeting_row, loose(), ROW, SOME, value), False)
        self.assertIs(is_meeting_row(loose(), ROW, NOTHING, None), False)

    def test_rests_from_0_on(self):
        # What lows hold may be more than the part: the rest of a number below 0 is counted from 0 on.
        self.assertEqual(barring_places(loose(), [0, 0, 1], [(4, 4), (3, 3), (2, 2)]), [0, 1, 2])
        self.assertEqual(barring_places(loose(), [1, 0, 0], [(4, 4), (3, 3), (2, 2)]), [2])

    def test_great_houses(self):
        house = House([60] * 7, [60] * 8)
        row = [31, 60, 0, 44, 7, 59, 1, 30]
        self.assertIs(is_met(house, row, [(0, 60)] * 8), True)
        self.assertEqual(meeting_row(house, row, [(count, count) for count in row]), row)
        self.assertEqual(barring_places(house, row, [(32, 60)] + [(0, 60)] * 7), [0])
        loose_house = House([2] * 7, [60] * 8)
        wish = [(7, 30)] * 8
        ends = meeting_ends(loose_house, row, wish)
        for late in (*ends, meeting_row(loose_house, row, wish), nearest(loose_house, row, wish)):
            self.assertIs(is_meeting_row(loose_house, row, wish, late), True)
        self.assertIs(is_nearest(loose_house, row, wish, nearest(loose_house, row, wish)), True)
        self.assertEqual(pairs_at(loose_house, row, 0, 7)[0][0], held_at(loose_house, row, 0)[0])


class Lots(unittest.TestCase):
    """[49]"""

    def test_against_chains_that_meet_the_wish(self):
        for house, rows, wish in CASES[::2]:
            lots = lots_by_hand(house, rows, wish)
            self.assertEqual(check_leaves_arguments(self, many_lots, house, rows[0], wish), len(lots))
        for house, rows, wish in CASES[::11]:
            lots = lots_by_hand(house, rows_of(house), wish)
            meeting = [row for row in rows_of(house) if fits(row, wish)]
            for one in meeting[:6]:
                for other in meeting:
                    is_so = any(tuple(one) in lot and tuple(other) in lot for lot in lots)
                    self.assertIs(check_leaves_arguments(self, same_lot, house, one, other, wish), is_so)

    def test_wish_house(self):
        for house, rows, wish in CASES:
            told = check_leaves_arguments(self, wish_house, house, wish)
            self.assertEqual(told, House(house.bases(), [high - low for low, high in wish]))

    def test_refused(self):
        meeting, other, without, also = [1, 2, 1], [4, 3, 0], [4, 1, 1], [0, 0, 0]
        expect_error(self, Refused, without, same_lot, loose(), without, other, SOME)
        expect_error(self, Refused, without, same_lot, loose(), meeting, without, SOME)
        expect_error(self, Refused, without, same_lot, loose(), without, also, SOME)
        expect_error(self, Refused, also, same_lot, loose(), also, without, SOME)
        # Behind InvalidWish, InvalidRow and InvalidHouse.
        for wrong in wrong_wishes():
            expect_error(self, InvalidWish, wrong, same_lot, loose(), without, also, wrong)
        for wrong in wrong_rows():
            expect_error(self, InvalidRow, wrong, same_lot, loose(), without, wrong, SOME)
        for wrong in [None, [], 3]:
            expect_error(self, InvalidHouse, wrong, same_lot, wrong, without, also, SOME)
        # Rows that are apart may both meet the wish.
        self.assertIs(same_lot(loose(), [0, 2, 0], [1, 2, 0], SOME), False)

    def test_wrong_arguments(self):
        check_wrong_arguments(
            self, same_lot, a_house(loose()), a_row([1, 2, 1], "one"), a_row([4, 3, 0], "other"), a_wish())


class Held(unittest.TestCase):
    """[50], [51]"""

    def test_against_all_rows_of_the_class(self):
        for house in small_houses() + many_small_houses():
            for rows in classes_by_hand(house):
                row, places = rows[-1], range(house.places())
                columns = [sorted(set(late[place] for late in rows)) for place in places]
                for place in places:
                    self.assertEqual(check_leaves_arguments(self, held_at, house, row, place), columns[place])
                    for late in places:
                        pairs = sorted(set((one[place], one[late]) for one in rows))
                        self.assertEqual(check_leaves_arguments(self, pairs_at, house, row, place, late), pairs)
                rigid = [place for place in places if len(columns[place]) == 1]
                self.assertEqual(check_leaves_arguments(self, rigid_places, house, row), rigid)

    def test_edges(self):
        self.assertEqual([held_at(House([], [5]), [3], 0), pairs_at(House([], [5]), [3], 0, 0)], [[3], [(3, 3)]])
        self.assertEqual(rigid_places(House([], [5]), [3]), [0])
        self.assertEqual(rigid_places(House([2, 2], [1, 1, 1]), [1, 0, 1]), [0, 1, 2])
        # There may be gaps.
        self.assertEqual(held_at(loose(), ROW, 0), [1, 4])
        self.assertEqual(pairs_at(loose(), ROW, 1, 1), [(0, 0), (1, 1), (2, 2), (3, 3)])

    def test_wrong_arguments(self):
        check_wrong_arguments(self, held_at, a_house(loose()), a_row(ROW), a_place(1))
        check_wrong_arguments(self, pairs_at, a_house(loose()), a_row(ROW), a_place(1), a_place(0, "late"))
        check_wrong_arguments(self, rigid_places, a_house(loose()), a_row(ROW))
        for wrong in wrong_places() + [1]:
            expect_error(self, InvalidPlace, wrong, held_at, House([], [5]), [3], wrong)


class Nearest(unittest.TestCase):
    """[52]"""

    def test_against_all_rows_of_the_class(self):
        for house, rows, wish in CASES:
            row = rows[len(wish) // 2 % len(rows)]
            reached = ways_from(house, row)
            lengths = [told[0] for late, told in reached.items() if fits(late, wish)]
            fewest = min(lengths) if lengths else None
            self.assertEqual(check_leaves_arguments(self, deeds_to, house, row, wish), fewest)
            told = check_leaves_arguments(self, nearest, house, row, wish)
            if fewest is None:
                self.assertIsNone(told)
            else:
                self.assertTrue(fits(told, wish) and reached[tuple(told)][0] == fewest)
            for late in rows[:9]:
                is_so = fits(late, wish) and reached[tuple(late)][0] == fewest
                self.assertIs(check_leaves_arguments(self, is_nearest, house, row, wish, late), is_so)

    def test_judges_any_object(self):
        check_refuses_objects(self, is_nearest, [4, 3, 0], loose(), ROW, SOME, right=[[1, 2, 1]])
        for value in wrong_rows() + [[1, 0, 2], [4, 1, 1], [0, 2, 0]]:
            self.assertIs(check_leaves_arguments(self, is_nearest, loose(), ROW, SOME, value), False)
        # A row that meets the wish is the nearest itself; what nothing meets has none.
        self.assertEqual([deeds_to(loose(), [1, 2, 1], SOME), nearest(loose(), [1, 2, 1], SOME)], [0, [1, 2, 1]])
        self.assertIs(is_nearest(loose(), [1, 2, 1], SOME, [4, 3, 0]), False)
        self.assertEqual([deeds_to(loose(), ROW, NOTHING), nearest(loose(), ROW, NOTHING)], [None, None])
        for value in [None, ROW, [1, 0, 1]]:
            self.assertIs(is_nearest(loose(), ROW, NOTHING, value), False)


class Fresh(unittest.TestCase):
    def test_fresh(self):
        for function in (barring_places, meeting_row, meeting_ends, nearest):
            check_fresh(self, function, loose(), ROW, SOME)
            check_fresh(self, function, loose(), [1, 2, 1], [(1, 1), (2, 2), (1, 1)])
        check_fresh(self, barring_places, loose(), ROW, NOTHING)
        check_fresh(self, held_at, tight(), [3, 0, 1, 1], 0)
        check_fresh(self, pairs_at, tight(), [3, 0, 1, 1], 0, 1)
        check_fresh(self, rigid_places, tight(), [3, 0, 1, 1])


if __name__ == "__main__":
    unittest.main()

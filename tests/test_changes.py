"""Points [2] and [89] to [94]: the functions of carryways.changes."""

import random
import unittest
from itertools import combinations

from carryways.changes import (
    are_joined_still, changed_by, classes_within, freed, is_kept_apart, longer, longer_row, must_free, parts_then,
    parts_within, shorter, split, split_row, upside_down, widening, with_rooms,
)
from carryways.errors import (
    Apart, InvalidBases, InvalidChange, InvalidHouse, InvalidNumber, InvalidPlace, InvalidRooms, InvalidRow, Refused,
    Unlike,
)
from carryways.houses import House, is_within
from tests.plain import (
    class_by_hand, classes_by_hand, let_by_hand, many_small_houses, part_worths_by_hand, parts_by_hand, worth,
)
from tests.support import (
    Argument, a_house, a_row, check_fresh, check_leaves_arguments, check_wrong_arguments, expect_error, loose,
    no_houses, odd_objects, rows_of, small_houses, tight, wrong_base, wrong_counts, wrong_places, wrong_rooms,
    wrong_rows,
)

ROW = [4, 1, 1]
TRIPLE = House([2, 3, 2], [3, 2, 1, 2])


def stiff_by_hand(house):
    return [place for place, base in enumerate(house.bases()) if house.rooms()[place] < base]


def freed_by_hand(house, places):
    rooms = [max(room, house.bases()[place]) if place in places else room for place, room in enumerate(house.rooms())]
    return House(house.bases(), rooms)


def lots_of(things):
    """All ascending lists of some things."""
    return [list(lot) for many in range(len(things) + 1) for lot in combinations(things, many)]


def a_count(name, good, error, more=()):
    return Argument(name, good, error, wrong_counts() + list(more))


def a_base(name, good, more=()):
    return Argument(name, good, InvalidBases, wrong_base() + list(more))


class Wider(unittest.TestCase):
    """[89], [90]"""

    def test_with_rooms(self):
        for house in small_houses():
            for rooms in ([0] * house.places(), [7] * house.places(), [10 ** 20] * house.places()):
                told = check_leaves_arguments(self, with_rooms, house, rooms)
                self.assertEqual([told.bases(), told.rooms()], [house.bases(), rooms])

    def test_freed(self):
        for house in small_houses():
            for places in lots_of(range(house.places() - 1)):
                told = check_leaves_arguments(self, freed, house, places)
                self.assertEqual(told, freed_by_hand(house, places))
                self.assertIs(is_within(house, told), True)
        self.assertEqual(freed(House([2, 3], [5, 1, 0]), [0, 1]).rooms(), [5, 3, 0])

    def test_must_free_against_all_lots_of_stiff_places(self):
        for house in small_houses() + many_small_houses()[::4] + [TRIPLE, House([2, 2, 2], [1, 2, 1, 2])]:
            lots = [(lot, classes_by_hand(freed_by_hand(house, lot))) for lot in lots_of(stiff_by_hand(house))]
            homes = [(lot, {tuple(row): at for at, rows in enumerate(classes) for row in rows}) for lot,
                classes in lots]
            rows = rows_of(house)
            for one in rows[:: 1 + len(rows) // 9]:
                for other in rows[:: 1 + len(rows) // 17]:
                    joining = [lot for lot, home in homes if home[tuple(one)] == home[tuple(other)]]
                    told = check_leaves_arguments(self, must_free, house, one, other)
                    late = check_leaves_arguments(self, widening, house, one, other)
                    if worth(house, one) != worth(house, other):
                        self.assertEqual([told, late, joining], [None, None, []])
                        continue
                    self.assertEqual(joining, [lot for lot, _ in lots if set(told) <= set(lot)])
                    self.assertEqual(late, freed_by_hand(house, told))

    def test_great_houses(self):
        house = House([60] * 7, [59] * 8)
        one, other = [0] * 8, [0] * 8
        self.assertEqual(must_free(house, one, other), [])
        # Only in a wider house: what comes to the one is carried through all stiff places between.
        house = House([2] * 7, [1, 60, 1, 1, 1, 60, 60, 60])
        one, other = [0, 32, 0, 0, 0, 0, 0, 1], [0, 0, 0, 0, 0, 0, 1, 1]
        self.assertEqual(must_free(house, one, other), [2, 3, 4])
        self.assertEqual(widening(house, one, other).rooms(), [1, 60, 2, 2, 2, 60, 60, 60])

    def wrong_places_lists(self):
        return odd_objects() + [
            0, 1, (), (0,), (0, 1), [2], [0, 2], [-1], [1, 0], [0, 0], [1, 1], [True], [0, True], [False], [None],
            ["0"],
            [[0]], [(0,)], [0, 1, 2], [10 ** 20], {0: 1}, [loose()],
        ]

    def test_wrong_arguments(self):
        rooms = Argument("rooms", [1, 2, 3], InvalidRooms, wrong_rooms())
        check_wrong_arguments(self, with_rooms, a_house(loose()), rooms)
        places = Argument("places", [0, 1], InvalidPlace, self.wrong_places_lists())
        check_wrong_arguments(self, freed, a_house(loose()), places)
        for function in (must_free, widening):
            check_wrong_arguments(self, function, a_house(loose()), a_row(ROW, "one"), a_row([0, 0, 0], "other"))
        for wrong in ([0], [1, 0]):
            expect_error(self, InvalidPlace, wrong, freed, House([], [5]), wrong)


def wider_houses():
    """Twos of a house and a wider one, the same one among them."""
    chance, found = random.Random(91), []
    # In one part of the wider house worth alone decides, in the other one it does not.
    found.append((House([2, 3, 4], [5, 1, 1, 2]), House([2, 3, 4], [5, 3, 1, 2])))
    for house in small_houses() + many_small_houses()[::3] + [TRIPLE]:
        for more in ([0] * 4, [chance.choice((0, 0, 1, 2)) for _ in range(4)], [2] * 4):
            rooms = [room + extra for room, extra in zip(house.rooms(), more)]
            found.append((house, House(house.bases(), rooms)))
    return found


WIDER = wider_houses()


class Within(unittest.TestCase):
    """[91]"""

    def test_parts_within(self):
        for house, late in WIDER:
            wanted = [[part for part in parts_by_hand(house) if first <= part[0] and part[1] <= last]
                      for first, last in parts_by_hand(late)]
            self.assertEqual(check_leaves_arguments(self, parts_within, house, late), wanted)
            self.assertEqual([part for parts in wanted for part in parts], parts_by_hand(house))

    def test_classes_within_against_all_rows(self):
        for house, late in WIDER:
            together = False
            for rows in classes_by_hand(late):
                early = [row for row in rows if all(count <= room for count, room in zip(row, house.rooms()))]
                coarse = {tuple(part_worths_by_hand(house, row)) for row in early}
                together = together or len(coarse) > 1
                for row in early[::3]:
                    told = check_leaves_arguments(self, classes_within, house, late, row)
                    self.assertEqual(told, [list(worths) for worths in sorted(coarse)])
            self.assertIs(check_leaves_arguments(self, are_joined_still, house, late), not together)

    def test_great_houses(self):
        house, late = House([60] * 7, [59] * 8), House([60] * 7, [60] * 8)
        self.assertEqual(parts_within(house, late), [[(place, place) for place in range(8)]])
        self.assertIs(are_joined_still(house, late), True)
        self.assertIs(are_joined_still(House([2] * 7, [1, 3, 1, 1, 1, 1, 1, 1]), House([2] * 7, [3] * 8)), False)

    def test_wrong_arguments(self):
        late = Argument("late", House([3, 2], [9, 3, 2]), InvalidHouse, no_houses())
        for function in (parts_within, are_joined_still):
            check_wrong_arguments(self, function, a_house(loose()), late)
        check_wrong_arguments(self, classes_within, a_house(loose()), late, a_row(ROW))

    def test_unlike(self):
        for late in (tight(), House([3, 2], [4, 3, 1]), House([3, 2], [3, 9, 9]), House([2, 3], [4, 3, 2]),
                     House([3], [4, 3])):
            expect_error(self, Unlike, late, parts_within, loose(), late)
            expect_error(self, Unlike, late, are_joined_still, loose(), late)
            for row in (ROW, None, [9, 9, 9], []):
                expect_error(self, Unlike, late, classes_within, loose(), late, row)
        # A row of the wider house is none of the house.
        late = House([3, 2], [9, 9, 9])
        for row in wrong_rows():
            expect_error(self, InvalidRow, row, classes_within, loose(), late, row)
        for wrong in no_houses():
            expect_error(self, InvalidHouse, wrong, parts_within, wrong, tight())


def splits():
    """Houses with a place whose base can be split, and how."""
    found = []
    for bases, rooms in (([4], [5, 2]), ([6], [7, 2]), ([6], [4, 3]), ([4, 2], [5, 1, 2]), ([2, 4], [3, 6, 1]),
                         ([6, 4], [7, 4, 1]), ([2, 6, 2], [2, 7, 2, 1]), ([8], [9, 2])):
        house = House(bases, rooms)
        for place, base in enumerate(bases):
            for first in range(2, base):
                if base % first == 0 and base // first > 1:
                    found += [(house, place, first, base // first, room) for room in range(base // first + 2)]
    return found


class Split(unittest.TestCase):
    """[92]"""

    def test_split(self):
        for house, place, first, second, room in splits():
            told = check_leaves_arguments(self, split, house, place, first, second, room)
            bases, rooms = house.bases(), house.rooms()
            self.assertEqual(told.bases(), bases[:place] + [first, second] + bases[place + 1:])
            self.assertEqual(told.rooms(), rooms[:place + 1] + [room] + rooms[place + 1:])
            for row in rows_of(house)[::3]:
                late = check_leaves_arguments(self, split_row, house, place, row)
                self.assertEqual(late, row[:place + 1] + [0] + row[place + 1:])
                self.assertEqual(worth(told, late), worth(house, row))

    def test_is_kept_apart_against_all_rows_of_the_class(self):
        for house, place, first, second, room in splits():
            late, kept = split(house, place, first, second, room), 0
            for rows in classes_by_hand(house):
                for one in rows[:2]:
                    home = class_by_hand(late, split_row(house, place, one))
                    for other in rows:
                        told = check_leaves_arguments(
                            self, is_kept_apart, house, place, first, second, room, one, other)
                        self.assertIs(told, split_row(house, place, other) not in home)
                        kept += told
            if room >= second:
                self.assertEqual(kept, 0)

    def test_apart(self):
        house = House([6], [7, 2])
        for one, other in (([6, 0], [0, 0]), ([0, 1], [0, 2]), ([5, 1], [5, 2])):
            expect_error(self, Apart, other, is_kept_apart, house, 0, 2, 3, 2, one, other)
            for wrong in (None, [8, 0], (6, 0), [6, 0, 0]):
                expect_error(self, InvalidRow, wrong, is_kept_apart, house, 0, 2, 3, 2, one, wrong)
                expect_error(self, InvalidRow, wrong, is_kept_apart, house, 0, 2, 3, 2, wrong, other)
            expect_error(self, InvalidRooms, -1, is_kept_apart, house, 0, 2, 3, -1, one, other)
            expect_error(self, InvalidBases, 2, is_kept_apart, house, 0, 2, 2, 3, one, other)

    def test_wrong_arguments(self):
        house = House([3, 6], [4, 3, 2])
        rows = [value for value in wrong_rows()]
        place = Argument("place", 1, InvalidPlace, wrong_places() + [2])
        first, room = a_base("first", 2), a_count("room", 3, InvalidRooms)
        second = a_base("second", 3, [2, 4, 6, 10 ** 20])
        check_wrong_arguments(self, split, a_house(house), place, first, second, room)
        check_wrong_arguments(
            self, split_row, a_house(house), place, Argument("row", [4, 1, 1], InvalidRow, rows))
        one = Argument("one", [4, 1, 1], InvalidRow, rows[::3])
        other = Argument("other", [1, 2, 1], InvalidRow, rows[::3])
        some = [a_house(house), place, first, second, room]
        for argument in some:
            argument.wrong = argument.wrong[::3]
        check_wrong_arguments(self, is_kept_apart, *some, one, other)
        # A product that is no base of the place: the second one is at fault.
        for first_base, second_base in ((2, 2), (3, 3), (6, 2), (12, 2), (4, 5)):
            expect_error(self, InvalidBases, second_base, split, house, 1, first_base, second_base, 3)
        for prime in (2, 3, 5):
            expect_error(self, InvalidBases, prime, split, House([prime], [4, 4]), 0, prime, prime, 1)
        expect_error(self, InvalidPlace, 0, split, House([], [5]), 0, 2, 2, 1)
        expect_error(self, InvalidPlace, 0, split_row, House([], [5]), 0, [3])


class Ends(unittest.TestCase):
    """[93]"""

    def test_upside_down(self):
        for house in small_houses():
            for row in rows_of(house):
                told = check_leaves_arguments(self, upside_down, house, row)
                self.assertEqual(told, [room - count for room, count in zip(house.rooms(), row)])
                self.assertEqual(upside_down(house, told), row)
                exchanged = {("down" if word == "up" else "up", place): upside_down(house, late)
                             for (word, place), late in let_by_hand(house, row).items()}
                self.assertEqual(let_by_hand(house, told), exchanged)

    def test_longer_and_shorter(self):
        for house in small_houses():
            late = check_leaves_arguments(self, longer, house, 3, 2)
            self.assertEqual([late.bases(), late.rooms()], [house.bases() + [3], house.rooms() + [2]])
            self.assertEqual(check_leaves_arguments(self, shorter, late, house.places()), house)
            for many in range(1, house.places() + 1):
                told = check_leaves_arguments(self, shorter, house, many)
                self.assertEqual([told.bases(), told.rooms()], [house.bases()[:many - 1], house.rooms()[:many]])
            for row in rows_of(house)[::7]:
                self.assertEqual(check_leaves_arguments(self, longer_row, house, row, 2), row + [2])

    def test_joined_exactly_if_without(self):
        for house in small_houses():
            late = longer(house, 2, 2)
            for row in rows_of(house)[::5]:
                home = class_by_hand(late, longer_row(house, row, 1))
                for other in rows_of(house):
                    self.assertIs(longer_row(house, other, 1) in home, other in class_by_hand(house, row))

    def test_wrong_arguments(self):
        check_wrong_arguments(self, upside_down, a_house(loose()), a_row(ROW))
        check_wrong_arguments(
            self, longer, a_house(loose()), a_base("base", 2), a_count("room", 0, InvalidRooms))
        check_wrong_arguments(
            self, shorter, a_house(loose()), a_count("many", 3, InvalidNumber, [0, 4, 10 ** 20]))
        check_wrong_arguments(
            self, longer_row, a_house(loose()), a_row(ROW), a_count("number", 10 ** 20, InvalidNumber))


def changed_by_hand(house, change):
    """The house behind a change by its form, None if it does not fit."""
    bases, rooms, (word, *things) = house.bases(), house.rooms(), change
    if word == "room" and things[0] < len(rooms):
        rooms[things[0]] = things[1]
    elif word == "split" and things[0] < len(bases) and things[1] * things[2] == bases[things[0]]:
        bases[things[0]:things[0] + 1] = things[1:3]
        rooms.insert(things[0] + 1, things[3])
    elif word == "longer":
        bases, rooms = bases + [things[0]], rooms + [things[1]]
    elif word == "shorter" and things[0] <= len(rooms):
        bases, rooms = bases[:things[0] - 1], rooms[:things[0]]
    else:
        return None
    return House(bases, rooms)


def wrong_change():
    """Objects that are no change by their form."""
    found = odd_objects() + [
        0, 1, (), [], ("room",), ("room", 0), ("room", 0, 1, 2), ["room", 0, 1], ("room", -1, 0), ("room", 0, -1),
        ("room", True, 1), ("room", 0, False), ("room", None, 1), ("room", "0", 1), ("Room", 0, 1), ("", 0, 1),
        (None, 0, 1), (True, 0, 1), (0, 0, 1), (["room"], 0, 1), (("room",), 0, 1), ("room", [0], 1), ("room", 0, (1,)),
        ("room", loose(), 1), (loose(), 0, 1), ("stretch", 0, 1), "room", ("room 0 1",),
        ("split",), ("split", 0, 2, 2), ("split", 0, 2, 2, 1, 1), ["split", 0, 2, 2, 1], ("split", -1, 2, 2, 1),
        ("split", 0, 1, 4, 1), ("split", 0, 4, 1, 1), ("split", 0, 2, 2, -1), ("split", 0, True, 2, 1),
        ("split", 0, 2, True, 1), ("split", False, 2, 2, 1), ("split", 0, 2, 2, True), ("split", 0, 2, 2, None),
        ("split", 0, "2", 2, 1), ("split", 0, 0, 0, 0), ("split", 0, -2, -2, 1), ("split", None, 2, 2, 1),
        ("longer",), ("longer", 2), ("longer", 2, 1, 0), ["longer", 2, 1], ("longer", 1, 1), ("longer", 0, 1),
        ("longer", -2, 1), ("longer", 2, -1), ("longer", True, 1), ("longer", 2, False), ("longer", 2, None),
        ("longer", [2], 1), ("short", 1), ("", 1), (None, 1), (1, 1), (["shorter"], 1), (loose(), 1), ("shorter",),
        ("shorter", 1, 1), ["shorter", 1], ("shorter", 0), ("shorter", -1),
        ("shorter", True), ("shorter", False), ("shorter", None), ("shorter", "1"), ("shorter", [1]), ("shorter", (1,)),
    ]
    return found


def wrong_changes():
    right = [("room", 1, 3), ("longer", 5, 1)]
    found = [0, 1, (), tuple(right), right[0], [right], {0: right[0]}, [list(right[0])], ["room", 1, 3]]
    return odd_objects() + found + [[wrong] for wrong in wrong_change()] + [
        right + [wrong] for wrong in wrong_change()[::2]] + [[("room", 9, 9), wrong] for wrong in wrong_change()[::5]]


class Changes(unittest.TestCase):
    """[94]"""

    def test_against_changes_by_hand(self):
        chance, fitting = random.Random(94), 0
        for house in [House([4], [5, 2]), House([6, 4], [7, 4, 1]), loose(), tight(), House([], [5]), TRIPLE] * 40:
            changes = [chance.choice([
                ("room", chance.randint(0, 3), chance.randint(0, 6)),
                ("split", chance.randint(0, 2), chance.choice((2, 2, 3)), chance.choice((2, 2, 3)),
                chance.randint(0, 3)),
                ("longer", chance.choice((2, 4, 6)), chance.randint(0, 4)),
                ("shorter", chance.randint(1, 5)),
            ]) for _ in range(chance.randint(0, 4))]
            houses, refused = [house], None
            for change in changes:
                late = changed_by_hand(houses[-1], change)
                if late is None:
                    refused = change
                    break
                houses.append(late)
            if refused is not None:
                expect_error(self, Refused, refused, changed_by, house, changes)
                expect_error(self, Refused, refused, parts_then, house, changes)
                continue
            fitting += 1
            self.assertEqual(check_leaves_arguments(self, changed_by, house, changes), houses[-1])
            told = check_leaves_arguments(self, parts_then, house, changes)
            self.assertEqual(told, [len(parts_by_hand(late)) for late in houses])
        self.assertGreater(fitting, 60)

    def test_what_does_not_fit(self):
        for change in (("room", 3, 0), ("split", 2, 2, 2, 1), ("split", 0, 2, 2, 1), ("split", 1, 2, 2, 0),
                       ("split", 0, 3, 3, 1), ("shorter", 4), ("room", 10 ** 20, 0), ("split", 9, 2, 2, 0)):
            changes = [("room", 0, 0), change, ("shorter", 9)]
            expect_error(self, Refused, change, changed_by, loose(), changes)
            expect_error(self, Refused, change, parts_then, loose(), changes)
        self.assertEqual(changed_by(loose(), [("longer", 2, 0), ("room", 3, 7), ("shorter", 4)]).rooms(), [4, 3, 2, 7])

    def test_no_changes(self):
        self.assertEqual([changed_by(tight(), []), parts_then(tight(), [])], [tight(), [3]])

    def test_wrong_arguments(self):
        changes = Argument("changes", [("room", 1, 3), ("longer", 5, 1)], InvalidChange, wrong_changes())
        for function in (changed_by, parts_then):
            check_wrong_arguments(self, function, a_house(tight()), changes)


class Fresh(unittest.TestCase):
    def test_fresh(self):
        check_fresh(self, must_free, TRIPLE, [0, 0, 0, 1], [2, 2, 1, 0])
        check_fresh(self, must_free, loose(), ROW, ROW)
        check_fresh(self, parts_within, TRIPLE, freed(TRIPLE, [1]))
        check_fresh(self, classes_within, TRIPLE, freed(TRIPLE, [1]), [0, 0, 1, 0])
        check_fresh(self, split_row, loose(), 0, ROW)
        check_fresh(self, upside_down, loose(), ROW)
        check_fresh(self, longer_row, loose(), ROW, 1)
        check_fresh(self, parts_then, loose(), [("room", 1, 3)])

    def test_lists_handed_in(self):
        rooms, places = [1, 2, 3], [0, 1]
        told = [with_rooms(loose(), rooms), freed(tight(), places)]
        rooms[0], places[:] = 9, []
        self.assertEqual([late.rooms() for late in told], [[1, 2, 3], [3, 3, 1, 2]])


if __name__ == "__main__":
    unittest.main()

"""Points [2] and [78] to [84]: the functions of carryways.events."""

import random
import unittest
from itertools import combinations, permutations, product
from math import factorial

from carryways.classes import part_worths
from carryways.errors import InvalidBounds, InvalidEvents, Refused
from carryways.events import (
    always_served, any_order, are_events, are_heights, bad_lot, behind_event, first_order, first_unserved, heights_of,
    is_bad_lot, is_run_of, is_run_of_least, is_served, is_served_so, is_why_unserved, least_by, least_toll,
    many_orders, run_of, run_of_least, why_unserved, wish_of, worths_along,
)
from carryways.houses import House
from carryways.wishes import barring_places, meets
from tests.plain import class_by_hand, let_by_hand, many_small_houses, part_worths_by_hand, ways_from
from tests.support import (
    Argument, a_house, a_row, bent, check_fresh, check_judge, check_leaves_arguments, check_refuses_objects,
    check_wrong_arguments, expect_error, loose, odd_objects, rows_of, small_houses, tight, wrong_event, wrong_events,
)

ROW = [4, 1, 1]
EVENTS = [(0, 3), (2, 1), (0, -2)]
UNSERVED = EVENTS + [(1, 3)]


def a_list_of_events(good=None):
    return Argument("events", EVENTS if good is None else good, InvalidEvents, wrong_events())


def behind(house, row, event):
    """The row behind an event, None if it does not happen at the row."""
    late = list(row)
    late[event[0]] += event[1]
    return late if 0 <= late[event[0]] <= house.rooms()[event[0]] else None


def classes_along(house, row, events):
    """The classes ahead of each event and behind the last one, up to the first that is not served."""
    found = [class_by_hand(house, row)]
    for event in events:
        late = [behind(house, early, event) for early in found[-1]]
        late = [row for row in late if row is not None]
        if not late:
            break
        found.append(class_by_hand(house, late[0]))
    return found


def some_events(house, chance, many):
    numbers = (-3, -2, -1, -1, 1, 1, 2, 3)
    return [(chance.randrange(house.places()), chance.choice(numbers)) for _ in range(many)]


def cases():
    """Houses, each with a row, events, and the classes along them."""
    chance, found = random.Random(78), []
    houses = small_houses() + many_small_houses()[::2] + [House([2, 2, 2], [4, 4, 3, 2]), House([2, 2], [9, 5, 2])]
    for house in houses:
        for row in rows_of(house)[:: 1 + len(rows_of(house)) // 6]:
            events = some_events(house, chance, chance.randint(0, 4))
            found.append((house, row, events, classes_along(house, row, events)))
    return found


CASES = cases()
SERVED = [case for case in CASES if len(case[3]) == len(case[2]) + 1]


class Single(unittest.TestCase):
    """[78]"""

    def test_against_all_rows(self):
        for house in small_houses() + many_small_houses()[::5]:
            for event in product(range(house.places()), (-7, -2, -1, 1, 2, 3, 60)):
                self.assertIs(check_leaves_arguments(self, are_events, house, [event]), True)
                late = [behind(house, row, event) for row in rows_of(house)]
                wish = None
                if any(row is not None for row in late):
                    wish = check_leaves_arguments(self, wish_of, house, event)
                else:
                    expect_error(self, Refused, event, wish_of, house, event)
                for row, wanted in zip(rows_of(house), late):
                    if wanted is None:
                        expect_error(self, Refused, event, behind_event, house, row, event)
                    else:
                        self.assertEqual(check_leaves_arguments(self, behind_event, house, row, event), wanted)
                    if wish is not None:
                        self.assertIs(meets(house, row, wish), wanted is not None)

    def test_wishes(self):
        self.assertEqual(wish_of(loose(), (0, 4)), [(0, 0), (0, 3), (0, 2)])
        self.assertEqual(wish_of(loose(), (1, -1)), [(0, 4), (1, 3), (0, 2)])
        self.assertEqual(wish_of(loose(), (2, -2)), [(0, 4), (0, 3), (2, 2)])
        for event in ((0, 5), (0, -5), (1, 4), (2, -3), (2, 10 ** 29)):
            expect_error(self, Refused, event, wish_of, loose(), event)

    def test_are_events(self):
        for value in wrong_events():
            self.assertIs(check_leaves_arguments(self, are_events, loose(), value), False)
        for value in ([], EVENTS, [(2, -10 ** 29)], [(1, 1), (1, 1)]):
            self.assertIs(check_leaves_arguments(self, are_events, loose(), value), True)
        check_refuses_objects(self, are_events, EVENTS, loose(), right=[[]])

    def test_wrong_arguments(self):
        event = Argument("event", (0, -2), InvalidEvents, wrong_event())
        check_judge(self, are_events, [None, [], EVENTS], a_house(loose()))
        check_wrong_arguments(self, behind_event, a_house(loose()), a_row(ROW), event)
        check_wrong_arguments(self, wish_of, a_house(loose()), event)
        for wrong in wrong_event():
            expect_error(self, InvalidEvents, wrong, behind_event, loose(), [0, 0, 0], wrong)


class Served(unittest.TestCase):
    """[79], [80]"""

    def test_against_the_classes_along(self):
        for house, row, events, classes in CASES:
            served = len(classes) == len(events) + 1
            self.assertIs(check_leaves_arguments(self, is_served, house, row, events), served)
            told = check_leaves_arguments(self, first_unserved, house, row, events)
            self.assertEqual(told, None if served else len(classes) - 1)
            self.assertEqual(
                check_leaves_arguments(self, worths_along, house, row, events),
                [part_worths_by_hand(house, rows[0]) for rows in classes])

    def test_runs(self):
        chance = random.Random(80)
        for house, row, events, classes in CASES:
            run = check_leaves_arguments(self, run_of, house, row, events)
            if len(classes) <= len(events):
                self.assertIsNone(run)
                self.assertIs(is_run_of(house, row, events, [rows[0] for rows in classes]), False)
                continue
            self.assertEqual([run[at] in classes[at] for at in range(len(run))], [True] * len(events))
            self.assertNotIn(None, [behind(house, late, event) for late, event in zip(run, events)])
            self.assertIs(check_leaves_arguments(self, is_run_of, house, row, events, run), True)
            for _ in range(4):
                other = [chance.choice(rows) for rows in classes[:-1]]
                is_so = all(behind(house, late, event) is not None for late, event in zip(other, events))
                self.assertIs(check_leaves_arguments(self, is_run_of, house, row, events, other), is_so)

    def test_a_row_of_another_class_is_in_no_run(self):
        self.assertIs(is_run_of(loose(), ROW, EVENTS, [[1, 0, 2], [1, 3, 1], [4, 2, 2]]), True)
        for run in ([[0, 0, 2], [1, 3, 1], [4, 2, 2]], [[1, 0, 2], [1, 3, 0], [4, 2, 2]], [[1, 0, 2], [1, 3, 1]],
                    [[1, 0, 2], [1, 3, 1], [4, 2, 2], [2, 2, 2]], [[1, 0, 2], [1, 3, 1], [1, 3, 2]]):
            self.assertIs(is_run_of(loose(), ROW, EVENTS, run), False)
        self.assertIs(is_run_of(loose(), ROW, UNSERVED, [[1, 0, 2], [1, 3, 1], [4, 2, 2], [2, 0, 2]]), False)

    def test_whys(self):
        for house, row, events, classes in CASES:
            why = check_leaves_arguments(self, why_unserved, house, row, events)
            wanted, at = [], len(classes) - 1
            if at < len(events):
                place, number = events[at]
                if abs(number) > house.rooms()[place]:
                    wanted = [(at, place)]
                else:
                    wish = wish_of(house, events[at])
                    wanted = [(at, bar) for bar in barring_places(house, classes[-1][0], wish)]
                self.assertIn(why, wanted)
            else:
                self.assertIsNone(why)
            for value in product(range(len(events) + 1), range(house.places() + 1)):
                told = check_leaves_arguments(self, is_why_unserved, house, row, events, value)
                self.assertIs(told, value in wanted)

    def test_great_houses(self):
        chance = random.Random(79)
        for base in (2, 3, 60):
            house, row = House([base] * 7, [60] * 8), [31, 60, 0, 44, 7, 59, 1, 30]
            for _ in range(20):
                events = [(chance.randrange(8), chance.choice((-1, 1)) * chance.randint(1, 62)) for _ in range(8)]
                run, why = run_of(house, row, events), why_unserved(house, row, events)
                self.assertIs(run is None, why is not None)
                if run is None:
                    self.assertIs(is_why_unserved(house, row, events, why), True)
                    self.assertEqual(len(worths_along(house, row, events)), why[0] + 1)
                else:
                    self.assertIs(is_run_of(house, row, events, run), True)
                    late = behind(house, run[-1], events[-1])
                    self.assertEqual(worths_along(house, row, events)[-1], part_worths(house, late))

    def test_judges_any_object(self):
        check_refuses_objects(self, is_run_of, [[1, 0, 2], [1, 3, 1], [4, 2, 2]], loose(), ROW, EVENTS)
        check_refuses_objects(self, is_run_of, [], loose(), ROW, [])
        check_refuses_objects(self, is_why_unserved, (0, 2), loose(), ROW, [(2, 3), (0, 1)])
        check_refuses_objects(self, is_why_unserved, (1, 0), House([], [5]), [5], [(0, -1), (0, 2)])

    def test_wrong_arguments(self):
        for function in (is_served, first_unserved, worths_along, run_of, why_unserved):
            check_wrong_arguments(self, function, a_house(loose()), a_row(ROW), a_list_of_events())
        for judge in (is_run_of, is_why_unserved):
            values = [None, [[1, 0, 2], [1, 3, 1], [4, 2, 2]]]
            check_judge(self, judge, values, a_house(loose()), a_row(ROW), a_list_of_events())


def heights_by_hand(house, row, events):
    """The least number of deeds to each row, ahead of each event and behind the last one; and at the rows behind it."""
    starts, found = {tuple(row): 0}, []
    for event in events + [None]:
        layer = {}
        for start, height in starts.items():
            for late, told in ways_from(house, list(start)).items():
                layer[late] = min(layer.get(late, height + told[0]), height + told[0])
        found.append(layer)
        if event is not None:
            starts = {tuple(behind(house, early, event)): height for early, height in layer.items()
                      if behind(house, early, event) is not None}
    return found, starts


def are_heights_by_hand(house, row, events, value):
    if value[0][tuple(row)] != 0 or any(height < 0 for layer in value for height in layer.values()):
        return False
    for layer in value:
        for early, height in layer.items():
            for late in let_by_hand(house, list(early)).values():
                if abs(layer[tuple(late)] - height) > 1:
                    return False
    for event, layer, later in zip(events, value, value[1:]):
        for early, height in layer.items():
            late = behind(house, early, event)
            if late is not None and later[tuple(late)] > height:
                return False
    return True


class Tolls(unittest.TestCase):
    """[81], [82]"""

    def test_against_all_rows_of_the_classes(self):
        for house, row, events, _ in SERVED:
            wanted, starts = heights_by_hand(house, row, events)
            told = check_leaves_arguments(self, heights_of, house, row, events)
            self.assertEqual([list(layer.items()) for layer in told], [sorted(layer.items()) for layer in wanted])
            toll = min(starts.values())
            self.assertEqual(check_leaves_arguments(self, least_toll, house, row, events), toll)
            self.assertEqual(check_leaves_arguments(self, least_by, house, row, events, told), toll)
            run = check_leaves_arguments(self, run_of_least, house, row, events)
            self.assertEqual(self.toll_by_hand(house, row, events, run), toll)
            self.assertIs(check_leaves_arguments(self, is_run_of_least, house, row, events, run), True)

    def toll_by_hand(self, house, row, events, run):
        ahead, toll = row, 0
        for event, late in zip(events, run):
            toll += ways_from(house, ahead)[tuple(late)][0]
            ahead = behind(house, late, event)
        return toll

    def test_all_runs_of_few(self):
        for house, row, events, classes in SERVED[::3]:
            runs = [list(run) for run in product(*classes[:-1])][:200]
            runs = [run for run in runs if is_run_of(house, row, events, run)]
            least = least_toll(house, row, events)
            for run in runs[::7] + runs[:2]:
                toll = self.toll_by_hand(house, row, events, run)
                self.assertGreaterEqual(toll, least)
                self.assertIs(check_leaves_arguments(self, is_run_of_least, house, row, events, run), toll == least)

    def test_other_heights(self):
        chance = random.Random(82)
        for house, row, events, _ in SERVED:
            told = heights_of(house, row, events)
            others = [[{key: 0 for key in layer} for layer in told], [{key: max(0, height - 1) for key, height in
                      layer.items()} for layer in told]]
            for _ in range(3):
                others.append([{key: max(0, height - chance.choice((0, 0, 0, 0, 1, -1))) for key, height in
                                chance.sample(list(layer.items()), len(layer))} for layer in told])
            for value in others:
                so = are_heights_by_hand(house, row, events, value)
                self.assertIs(check_leaves_arguments(self, are_heights, house, row, events, value), so)
                if not so:
                    expect_error(self, InvalidBounds, value, least_by, house, row, events, value)
                elif events:
                    ends = [behind(house, early, events[-1]) for early in value[-2]]
                    least = min(value[-1][tuple(late)] for late in ends if late is not None)
                    self.assertEqual(least_by(house, row, events, value), least)
                    self.assertLessEqual(least, least_toll(house, row, events))
                else:
                    self.assertEqual(least_by(house, row, events, value), 0)

    def test_unserved(self):
        for house, row, events, classes in CASES:
            if len(classes) <= len(events):
                self.assertIsNone(least_toll(house, row, events))
                self.assertIsNone(run_of_least(house, row, events))
                self.assertIs(is_run_of_least(house, row, events, [rows[0] for rows in classes]), False)
                for args in ((heights_of,), (are_heights, None), (least_by, None), (are_heights, []), (least_by, 0)):
                    expect_error(self, Refused, events, args[0], house, row, events, *args[1:])

    def test_classes_of_eight_places(self):
        house, row = House([2] * 7, [3, 2, 3, 2, 3, 2, 3, 2]), [1, 2, 1, 2, 1, 0, 1, 1]
        events = [(0, 2), (7, 1), (3, -2), (5, 2), (1, -2), (2, 3), (6, -1), (4, -1)]
        self.assertIs(is_served(house, row, events), True)
        wanted, starts = heights_by_hand(house, row, events)
        told = heights_of(house, row, events)
        self.assertEqual(told, wanted)
        self.assertGreater(max(len(layer) for layer in told), 50)
        run = run_of_least(house, row, events)
        self.assertEqual([is_run_of_least(house, row, events, run), least_by(house, row, events, told)],
                         [True, min(starts.values())])

    def wrong_heights(self):
        told = heights_of(loose(), ROW, EVENTS)
        found = [[], told[:3], told + [{}], told[::-1], tuple(told), [list(layer) for layer in told], told[0]]
        found += bent(told, [None, {}, [], 0, {(1, 0, 2): 0}, {**told[0], (0, 0, 0): 0}])
        for at, layer in enumerate(told):
            some = list(layer)[0]
            odds = [some[:-1], some + (0,), str(some), None, 0, (some,)] + bent(some, [None, "0", (0,), 9])
            odds += bent(some, [True]) if 1 in some else []
            for odd in odds:
                layer_then = {(key if key != some else odd): layer[key] for key in layer}
                found.append(told[:at] + [layer_then] + told[at + 1:])
            for odd in (None, True, "1", [1], -1, layer[some] + 2, {}):
                found.append(told[:at] + [{**layer, some: odd}] + told[at + 1:])
        # A row of the class left out; the row itself not at 0.
        found.append([{key: told[0][key] for key in told[0] if key != (1, 0, 2)}] + told[1:])
        found.append([{key: told[0][key] + 1 for key in told[0]}] + told[1:])
        return odd_objects() + [0, 1, ()] + found

    def test_judges_any_object(self):
        told = heights_of(loose(), ROW, EVENTS)
        for value in self.wrong_heights():
            self.assertIs(check_leaves_arguments(self, are_heights, loose(), ROW, EVENTS, value), False, value)
        self.assertIs(are_heights(loose(), ROW, EVENTS, told), True)
        check_refuses_objects(self, is_run_of_least, run_of_least(loose(), ROW, EVENTS), loose(), ROW, EVENTS)
        check_refuses_objects(self, is_run_of_least, [], loose(), ROW, [])

    def test_no_events(self):
        heights = heights_of(loose(), ROW, [])
        self.assertEqual(heights, [{(1, 0, 2): 2, (1, 2, 1): 1, (4, 1, 1): 0, (4, 3, 0): 1}])
        self.assertEqual([least_toll(loose(), ROW, []), run_of_least(loose(), ROW, []), run_of(loose(), ROW, [])],
                         [0, [], []])
        self.assertEqual([least_by(loose(), ROW, [], heights), are_heights(loose(), ROW, [], heights)], [0, True])
        self.assertEqual(worths_along(loose(), ROW, []), [[13]])

    def test_wrong_arguments(self):
        for function in (least_toll, run_of_least, heights_of):
            check_wrong_arguments(self, function, a_house(loose()), a_row(ROW), a_list_of_events())
        check_judge(self, is_run_of_least, [None, []], a_house(loose()), a_row(ROW), a_list_of_events())
        check_judge(self, are_heights, [None, [{}]], a_house(loose()), a_row(ROW), a_list_of_events())
        heights = Argument("heights", heights_of(loose(), ROW, EVENTS), InvalidBounds, self.wrong_heights())
        check_wrong_arguments(self, least_by, a_house(loose()), a_row(ROW), a_list_of_events(), heights)


class Orders(unittest.TestCase):
    """[83], [84]"""

    def test_against_all_orders(self):
        for house, row, events, _ in CASES:
            orders = [list(order) for order in permutations(range(len(events)))]
            served = [order for order in orders if self.is_so(house, row, [events[at] for at in order])]
            for order in orders[::3]:
                told = check_leaves_arguments(self, is_served_so, house, row, events, order)
                self.assertIs(told, order in served)
            self.assertEqual(check_leaves_arguments(self, many_orders, house, row, events), len(served))
            first = check_leaves_arguments(self, first_order, house, row, events)
            self.assertEqual(first, served[0] if served else None)
            one = check_leaves_arguments(self, any_order, house, row, events)
            self.assertTrue(one in served if served else one is None)
            told = check_leaves_arguments(self, always_served, house, row, events)
            self.assertIs(told, len(served) == len(orders))

    def is_so(self, house, row, events):
        return len(classes_along(house, row, events)) == len(events) + 1

    def test_bad_lots(self):
        for house, row, events, _ in CASES[::2]:
            positions, bad = range(len(events)), []
            for many in positions:
                for lot in combinations(positions, many):
                    orders = [order for order in permutations(lot) if self.is_so(house, row,
                        [events[at] for at in order])]
                    bad += [(list(lot), at) for at in positions if at not in lot and orders
                            and not self.is_so(house, row, [events[late] for late in orders[0] + (at,)])]
            told = check_leaves_arguments(self, bad_lot, house, row, events)
            self.assertTrue(told in bad if bad else told is None)
            for many in range(len(events) + 1):
                for lot, at in product(combinations(positions, many), positions):
                    value = (list(lot), at)
                    told = check_leaves_arguments(self, is_bad_lot, house, row, events, value)
                    self.assertIs(told, value in bad)

    def test_all_orders_of_eight(self):
        house, row = House([60] * 7, [60] * 8), [30] * 8
        events = [(place, 20) for place in range(8)]
        self.assertEqual([many_orders(house, row, events), always_served(house, row, events)], [factorial(8), True])
        self.assertEqual([first_order(house, row, events), bad_lot(house, row, events)], [list(range(8)), None])
        # Alone in their house, eight come and go by turns.
        house, events = House([], [1]), [(0, -1), (0, 1)] * 4
        self.assertEqual([many_orders(house, [0], events), many_orders(house, [1], events)], [24 * 24] * 2)
        self.assertEqual(first_order(house, [0], events), [1, 0, 3, 2, 5, 4, 7, 6])
        self.assertEqual([first_order(house, [1], events), always_served(house, [1], events)], [list(range(8)), False])
        self.assertIs(is_bad_lot(house, [1], events, ([], 1)), True)
        self.assertIs(is_bad_lot(house, [1], events, ([1], 3)), False)
        self.assertIs(is_bad_lot(house, [1], events, ([0, 1, 2], 4)), True)

    def wrong_orders(self):
        return odd_objects() + [
            0, 1, (), [], [0], [0, 1], (0, 1, 2), [0, 1, 2, 3], [0, 1, 1], [0, 0, 0], [1, 2, 3], [-1, 0, 1],
            [0, True, 2], [False, 1, 2], [0, 1, None], [0, 1, "2"], [0, 1, [2]], [[0, 1, 2]], [0, 1, 10 ** 20],
            {0: 0, 1: 1, 2: 2}, [0, loose(), 2],
        ]

    def test_judges_any_object(self):
        house, events = loose(), [(0, 3), (2, 3), (0, -2)]
        check_refuses_objects(self, is_bad_lot, ([0], 1), house, ROW, events)
        check_refuses_objects(self, is_bad_lot, ([0, 2], 1), house, ROW, events)
        for value in (([0], 0), ([1], 0), ([0, 0], 1), ([2, 0], 1), ([0], 3), ([0], -1), ([3], 1), ([-1], 1), (0, 1),
                      ((0,), 1), ([0], 1, 0), ([0],), ([0], [1]), ([], 0)):
            self.assertIs(check_leaves_arguments(self, is_bad_lot, house, ROW, events, value), False)
        self.assertIs(is_bad_lot(tight(), [3, 0, 1, 1], [], ([], 0)), False)

    def test_wrong_arguments(self):
        for function in (many_orders, any_order, first_order, always_served, bad_lot):
            check_wrong_arguments(self, function, a_house(loose()), a_row(ROW), a_list_of_events())
        check_judge(self, is_bad_lot, [None, ([], 0)], a_house(loose()), a_row(ROW), a_list_of_events())
        order = Argument("order", [2, 0, 1], InvalidEvents, self.wrong_orders())
        check_wrong_arguments(self, is_served_so, a_house(loose()), a_row(ROW), a_list_of_events(), order)


class Fresh(unittest.TestCase):
    def test_fresh(self):
        check_fresh(self, behind_event, loose(), ROW, (0, -2))
        check_fresh(self, wish_of, loose(), (0, 3))
        check_fresh(self, worths_along, loose(), ROW, EVENTS)
        for function in (run_of, run_of_least, heights_of, any_order, first_order):
            check_fresh(self, function, loose(), ROW, EVENTS)
        check_fresh(self, bad_lot, loose(), ROW, EVENTS)


if __name__ == "__main__":
    unittest.main()

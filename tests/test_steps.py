"""Points [2] and [41] to [45]: the functions of carryways.steps."""

import unittest

from carryways.errors import Apart, InvalidHouse, InvalidRow, InvalidSteps
from carryways.houses import House
from carryways.steps import (
    all_ahead, are_closed, climb, is_below, is_climb, is_longest_needs, longest_needs, many_climbs, needs, row_by,
    steps_above, steps_of, taken,
)
from tests.plain import by_hand, classes_by_hand, many_small_houses, rounds_from, ways_from
from tests.support import (
    Argument, a_house, a_row, check_apart, check_fresh, check_judge, check_leaves_arguments, check_refuses_objects,
    check_wrong_arguments, expect_error, loose, small_houses, tight, wrong_rows, wrong_steps,
)

ROW = [4, 1, 1]
WIDE, MID = House([2, 2, 2], [5, 4, 3, 2]), [3, 2, 1, 1]
SOME = [WIDE, House([2, 2], [8, 2, 2]), House([2, 2], [6, 4, 2]), House([3, 2, 2], [6, 2, 2, 1])]


class Plain:
    """A class of few rows, and its steps, by going through its rows."""

    def __init__(self, house, rows):
        self.house, self.rows = house, rows
        columns = list(zip(*[told[2] for told in ways_from(house, rows[0]).values()]))
        lows = tuple(min(column) for column in columns)
        # The least row is the one to which all least carries lead at once.
        self.least = [list(row) for row, told in ways_from(house, rows[0]).items() if told[2] == lows][0]
        self.outs = {row: told[2] for row, told in ways_from(house, self.least).items()}
        self.steps = [
            (place, at) for place in range(house.places() - 1)
            for at in range(1, 1 + max(outs[place] for outs in self.outs.values()))]
        self.taken = {
            row: [(place, at) for place, at in self.steps if at <= outs[place]] for row, outs in self.outs.items()}

    def needs(self, step):
        """By the words of [42]."""
        (place, at), bases, found = step, self.house.bases(), []
        if at > 1:
            found.append((place, at - 1))
        if place > 0 and bases[place] * at - self.least[place] > 0:
            found.append((place - 1, bases[place] * at - self.least[place]))
        if place + 1 < self.house.places() - 1:
            above = self.least[place + 1] + at - self.house.rooms()[place + 1]
            if above > 0:
                found.append((place + 1, above // bases[place + 1] + (1 if above % bases[place + 1] else 0)))
        return sorted(found)

    def ahead(self, step):
        found = []
        for early in self.needs(step):
            found += [early] + self.ahead(early)
        return sorted(set(found))

    def climbs(self):
        """All climbs: the orders in which single ups lead from the least row to the greatest one."""
        layer = [([], self.least)]
        for _ in self.steps:
            later = []
            for steps, row in layer:
                outs = self.outs[tuple(row)]
                for place in range(len(outs)):
                    late = by_hand(self.house, row, ("up", place))
                    if late is not None:
                        later.append((steps + [(place, outs[place] + 1)], late))
            layer = later
        return [steps for steps, _ in layer]


def plain_classes():
    houses = small_houses() + many_small_houses()[::3] + SOME
    return [Plain(house, rows) for house in houses for rows in classes_by_hand(house)]


CLASSES = plain_classes()


def subsets(steps):
    """All ascending lists of some of the steps."""
    found = [[]]
    for step in steps:
        found += [some + [step] for some in found]
    return found


class Steps(unittest.TestCase):
    """[41], [42]"""

    def test_steps_and_what_is_taken(self):
        for plain in CLASSES:
            for row in plain.rows:
                self.assertEqual(check_leaves_arguments(self, steps_of, plain.house, row), plain.steps)
                self.assertEqual(check_leaves_arguments(self, taken, plain.house, row), plain.taken[tuple(row)])

    def test_needs(self):
        for plain in CLASSES:
            row = plain.rows[len(plain.rows) // 2]
            for step in plain.steps:
                self.assertEqual(check_leaves_arguments(self, needs, plain.house, row, step), plain.needs(step))
                self.assertEqual(check_leaves_arguments(self, all_ahead, plain.house, row, step), plain.ahead(step))
                # Needed ahead of it, at once or not, is just what each row that has taken the step has taken.
                always = [early for early in plain.steps if early != step and all(
                    early in some for some in plain.taken.values() if step in some)]
                self.assertEqual(all_ahead(plain.house, row, step), always)

    def test_a_step_can_be_done_exactly_behind_those_that_it_needs(self):
        for plain in CLASSES:
            for row in plain.rows:
                done = plain.taken[tuple(row)]
                for place, at in plain.steps:
                    if (place, at) not in done and (at == 1 or (place, at - 1) in done):
                        is_let = by_hand(plain.house, row, ("up", place)) is not None
                        held = all(early in done for early in needs(plain.house, row, (place, at)))
                        self.assertIs(held, is_let)

    def test_wrong_arguments(self):
        for function in (steps_of, taken, climb, many_climbs, longest_needs):
            check_wrong_arguments(self, function, a_house(loose()), a_row(ROW))
        step = Argument("step", (1, 2), InvalidSteps, wrong_steps())
        for function in (needs, all_ahead):
            check_wrong_arguments(self, function, a_house(loose()), a_row(ROW), step)
            for wrong in [(0, 1), (0, 0), None]:
                expect_error(self, InvalidSteps, wrong, function, House([], [5]), [3], wrong)
                expect_error(self, InvalidSteps, wrong, function, loose(), [0, 0, 0], wrong)


class Closed(unittest.TestCase):
    """[43]"""

    def test_closed_lists_are_one_to_one_with_rows(self):
        for plain in CLASSES:
            row = plain.rows[-1]
            rows = {tuple(some): list(late) for late, some in plain.taken.items()}
            if len(plain.steps) > 8:
                continue
            for some in subsets(plain.steps):
                is_so = tuple(some) in rows
                self.assertIs(check_leaves_arguments(self, are_closed, plain.house, row, some), is_so)
                if is_so:
                    told = check_leaves_arguments(self, row_by, plain.house, row, some)
                    self.assertEqual(told, rows[tuple(some)])
                else:
                    expect_error(self, InvalidSteps, some, row_by, plain.house, row, some)
        self.assertTrue(any(len(plain.steps) >= 6 for plain in CLASSES))

    def test_ascending_without_doubles(self):
        self.assertIs(are_closed(loose(), ROW, [(0, 1), (1, 1)]), True)
        for value in [[(1, 1), (0, 1)], [(0, 1), (1, 1), (1, 1)], [(1, 1), (1, 1)], [(0, 1)], [(1, 2)],
                [(1, 1), (1, 2)]]:
            self.assertIs(are_closed(loose(), ROW, value), False)

    def test_judges_any_object(self):
        check_refuses_objects(self, are_closed, [(0, 1), (1, 1)], loose(), ROW, right=[[]])
        for wrong in wrong_steps():
            for value in [[wrong], [(1, 1), wrong], [wrong, (1, 1)]]:
                self.assertIs(check_leaves_arguments(self, are_closed, loose(), ROW, value), False)

    def test_wrong_arguments(self):
        wrong = [value for value in wrong_steps() if value != []]
        wrong += [[value] for value in wrong_steps()] + [((1, 1),), [(0, 1)], [(1, 1), (0, 1)], [(1, 1), (1, 1)]]
        check_wrong_arguments(
            self, row_by, a_house(loose()), a_row(ROW), Argument("steps", [(1, 1)], InvalidSteps, wrong))
        check_judge(self, are_closed, [None, [(1, 1)]], a_house(loose()), a_row(ROW))


class Below(unittest.TestCase):
    """[44]"""

    def test_against_all_rows_of_the_class(self):
        for plain in CLASSES:
            for row in plain.rows[:9]:
                above, layer = {tuple(row): True}, [row]
                while layer:
                    ups = [by_hand(plain.house, early, ("up", place)) for early in layer
                           for place in range(plain.house.places() - 1)]
                    layer = [late for late in ups if late is not None and tuple(late) not in above]
                    above.update({tuple(late): True for late in layer})
                for other in plain.rows:
                    mine, others = plain.taken[tuple(row)], plain.taken[tuple(other)]
                    told = check_leaves_arguments(self, is_below, plain.house, row, other)
                    self.assertIs(told, tuple(other) in above)
                    self.assertIs(told, all(step in others for step in mine))
                    missing = [step for step in others if step not in mine]
                    self.assertEqual(check_leaves_arguments(self, steps_above, plain.house, row, other), missing)

    def test_apart(self):
        for function in (is_below, steps_above):
            check_apart(self, function, loose(), ROW, [4, 2, 1])
            check_apart(self, function, tight(), [0, 0, 0, 1], [0, 0, 1, 0])
            check_apart(self, function, House([], [5]), [3], [2])
            check_wrong_arguments(self, function, a_house(loose()), a_row(ROW), a_row([1, 2, 1], "other"))
            apart = [0, 0, 0]
            expect_error(self, Apart, apart, function, loose(), ROW, apart)
            for wrong in wrong_rows():
                expect_error(self, InvalidRow, wrong, function, loose(), wrong, apart)
            for wrong in [None, [], 1]:
                expect_error(self, InvalidHouse, wrong, function, wrong, ROW, apart)


class Climbs(unittest.TestCase):
    """[45]"""

    def test_against_all_climbs(self):
        for plain in CLASSES:
            row = plain.rows[0]
            if len(plain.rows) > 30:
                continue
            climbs = plain.climbs()
            self.assertEqual(check_leaves_arguments(self, many_climbs, plain.house, row), len(climbs))
            self.assertIn(check_leaves_arguments(self, climb, plain.house, row), climbs)
            for steps in climbs[:20]:
                self.assertIs(check_leaves_arguments(self, is_climb, plain.house, row, steps), True)
                for at in range(len(steps)):
                    swapped = steps[:at] + [steps[at - 1]] + steps[at + 1:]
                    other = steps[:at] + steps[at + 1:]
                    turned = steps[:at] + steps[at:][::-1]
                    for value in (swapped, other, turned, steps + steps[at:]):
                        self.assertIs(is_climb(plain.house, row, value), value in climbs)

    def test_longest_needs(self):
        for plain in CLASSES:
            row = plain.rows[0]
            longest, layer = 0, [[step] for step in plain.steps]
            every = [[]]
            while layer and len(layer) < 2000:
                longest, every = longest + 1, layer
                layer = [some + [step] for some in layer for step in plain.steps if some[-1] in plain.needs(step)]
            if layer:
                continue
            told = check_leaves_arguments(self, longest_needs, plain.house, row)
            self.assertIn(told, every)
            for some in every[:30]:
                self.assertIs(check_leaves_arguments(self, is_longest_needs, plain.house, row, some), True)
                self.assertIs(is_longest_needs(plain.house, row, some[1:]), some == [])
                self.assertIs(is_longest_needs(plain.house, row, some[::-1]), len(some) < 2)
                if some:
                    self.assertIs(is_longest_needs(plain.house, row, some[:-1] + [some[0]]), len(some) == 1)
            greatest = max(plain.outs, key=lambda late: sum(plain.outs[late]))
            if len(plain.rows) < 12:
                self.assertEqual(rounds_from(plain.house, plain.least)[greatest], longest)

    def test_judges_any_object(self):
        check_refuses_objects(self, is_climb, [(1, 1), (0, 1), (1, 2)], loose(), ROW)
        check_refuses_objects(self, is_longest_needs, [(1, 1), (0, 1), (1, 2)], loose(), ROW)
        for judge in (is_climb, is_longest_needs):
            for wrong in wrong_steps():
                for value in [[(1, 1), (0, 1), wrong], [wrong, (0, 1), (1, 2)], [(1, 1), (0, 1), (1, 2), wrong]]:
                    self.assertIs(check_leaves_arguments(self, judge, loose(), ROW, value), False)
            check_judge(self, judge, [None, [(1, 1), (0, 1), (1, 2)]], a_house(loose()), a_row(ROW))

    def test_a_longest_list_needs_at_once(self):
        # (1, 2) needs (1, 1) through (0, 1), too; the shorter list is not as long as any.
        self.assertIs(is_longest_needs(loose(), ROW, [(1, 1), (1, 2)]), False)
        steep, row = House([2, 2], [8, 2, 2]), [8, 0, 0]
        self.assertEqual(needs(steep, row, (1, 2)), [(0, 4), (1, 1)])
        self.assertEqual(len(longest_needs(steep, row)), 6)


class Edges(unittest.TestCase):
    def test_classes_of_one_row(self):
        for house, row in ((House([], [5]), [3]), (House([], [0]), [0]), (House([2, 2], [1, 1, 1]), [1, 0, 1]),
                           (House([2, 2], [0, 0, 0]), [0, 0, 0]), (loose(), [0, 0, 0])):
            self.assertEqual([steps_of(house, row), taken(house, row), climb(house, row)], [[], [], []])
            self.assertEqual([longest_needs(house, row), many_climbs(house, row), row_by(house, row, [])], [[], 1, row])
            self.assertEqual([is_below(house, row, list(row)), steps_above(house, row, list(row))], [True, []])
            for judge in (are_closed, is_climb, is_longest_needs):
                self.assertIs(judge(house, row, []), True)
                self.assertIs(judge(house, row, [(0, 1)]), False)

    def test_great_houses(self):
        for base in (2, 7, 60):
            house = House([base] * 7, [60] * 8)
            row = [31, 60, 0, 44, 7, 59, 1, 30]
            steps = steps_of(house, row)
            self.assertIs(are_closed(house, row, steps), True)
            self.assertEqual(row_by(house, row, taken(house, row)), row)
            self.assertIs(is_climb(house, row, climb(house, row)), True)
            self.assertIs(is_longest_needs(house, row, longest_needs(house, row)), True)
            self.assertEqual(steps_above(house, row_by(house, row, []), row_by(house, row, steps)), steps)
            self.assertIs(is_below(house, row_by(house, row, []), row), True)

    def test_many_climbs_of_a_class_that_is_just_small(self):
        house, row = House([2, 2, 2], [30, 12, 7, 3]), [15, 6, 3, 1]
        reached = ways_from(house, row_by(house, row, []))
        self.assertTrue(200 < len(reached) <= 400)
        self.assertEqual(many_climbs(house, row), reached[tuple(row_by(house, row, steps_of(house, row)))][1])

    def test_fresh(self):
        for function in (steps_of, taken, climb, longest_needs):
            check_fresh(self, function, WIDE, MID)
        for function in (needs, all_ahead):
            check_fresh(self, function, WIDE, MID, (2, 2))
        check_fresh(self, row_by, loose(), ROW, [(1, 1)])
        check_fresh(self, row_by, loose(), [4, 3, 0], [])
        check_fresh(self, steps_above, loose(), [4, 3, 0], ROW)


if __name__ == "__main__":
    unittest.main()

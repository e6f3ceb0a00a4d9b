"""Points [2] and [29] to [35]: the functions of carryways.chains."""

import unittest

from carryways.chains import (
    are_rounds, behind_round, fewest_deeds, fewest_rounds, first_deeds, is_chain, is_neck, is_round, is_shortest_chain,
    many_shortest, moments, neck, rounds_for, shortest_chain, steps_between, waits_for,
)
from carryways.ends import greatest_row, least_row
from carryways.errors import Apart, InvalidChain, InvalidHouse, InvalidRow, InvalidSteps, Refused
from carryways.houses import House
from carryways.rows import row_behind
from tests.plain import (
    by_hand, classes_by_hand, deeds_of, let_by_hand, many_small_houses, rounds_at, rounds_from, shortest_chains_by_hand,
    ways_from,
)
from tests.support import (
    Argument, a_house, a_row, check_apart, check_fresh, check_judge, check_leaves_arguments, check_refuses_objects,
    check_wrong_arguments, expect_error, loose, rows_of, small_houses, tight, wrong_chains, wrong_rows, wrong_steps,
)

FROM, TO = [4, 3, 0], [1, 0, 2]
WAYS = [("up", 1), ("up", 0), ("up", 1)]
WIDE = House([2, 2, 3], [6, 3, 4, 2])
SOME = [
    House([2, 2], [8, 2, 2]), House([2, 2], [6, 4, 2]), House([2, 2, 2], [4, 3, 3, 2]), House([2, 3, 2], [5, 3, 4, 1])]


def two_rows(one=FROM, other=TO):
    return [a_house(loose()), a_row(one, "one"), a_row(other, "other")]


def pairs():
    """Houses of few rows with two rows of one class."""
    found = []
    for house in small_houses() + many_small_houses()[::3] + SOME:
        for rows in classes_by_hand(house):
            for one in rows[::1 + len(rows) // 5]:
                found += [(house, one, other) for other in rows[::1 + len(rows) // 5] + [rows[-1]]]
    return found


PAIRS = pairs()


def outs_by_hand(house, one, other):
    return ways_from(house, one)[tuple(other)][2]


def steps_by_hand(outs):
    return [(place, at) for place in range(len(outs)) for at in range(1, abs(outs[place]) + 1)]


def waits_by_hand(house, one, outs, late, early):
    """Whether a step waits for another one, by the words of [32]."""
    (place, at), (beside, number) = late, early
    if place == beside:
        return number == at - 1
    if abs(place - beside) != 1:
        return False
    box = max(place, beside)
    for below in range(number):
        done = {place: at, beside: below}
        held = one[box]
        held += done[box - 1] if outs[box - 1] > 0 else -done[box - 1]
        held -= house.bases()[box] * (done[box] if outs[box] > 0 else -done[box])
        if 0 <= held <= house.rooms()[box]:
            return False
    return True


class Shortest(unittest.TestCase):
    """[29] to [31]"""

    def test_fewest_and_first(self):
        for house, one, other in PAIRS:
            reached = ways_from(house, other)
            fewest = reached[tuple(one)][0]
            self.assertEqual(check_leaves_arguments(self, fewest_deeds, house, one, other), fewest)
            firsts = [
                deed for deed in deeds_of(house) if by_hand(house, one, deed) is not None
                and reached[tuple(by_hand(house, one, deed))][0] < fewest]
            self.assertEqual(check_leaves_arguments(self, first_deeds, house, one, other), firsts)
            self.assertIs(firsts == [], one == other)

    def test_shortest_chain(self):
        for house, one, other in PAIRS:
            chain = check_leaves_arguments(self, shortest_chain, house, one, other)
            self.assertEqual(row_behind(house, one, chain), other)
            self.assertEqual(len(chain), ways_from(house, one)[tuple(other)][0])
            self.assertIs(is_shortest_chain(house, one, other, chain), True)

    def test_many_shortest(self):
        for house, one, other in PAIRS:
            many = ways_from(house, one)[tuple(other)][1]
            self.assertEqual(check_leaves_arguments(self, many_shortest, house, one, other), many)
        # A class of many rows, but of no more than are small.
        house = House([2, 2, 2], [30, 12, 7, 3])
        least, greatest = least_row(house, [15, 6, 3, 1]), greatest_row(house, [15, 6, 3, 1])
        reached = ways_from(house, least)
        self.assertTrue(200 < len(reached) <= 400, len(reached))
        self.assertEqual(many_shortest(house, least, greatest), reached[tuple(greatest)][1])

    def test_judges_of_chains(self):
        for house, one, other in PAIRS[::7]:
            fewest = ways_from(house, one)[tuple(other)][0]
            layer = [([], one)]
            for length in range(4):
                for chain, row in layer:
                    is_so = row == other
                    self.assertIs(check_leaves_arguments(self, is_chain, house, one, other, chain), is_so)
                    self.assertIs(is_shortest_chain(house, one, other, chain), is_so and length == fewest)
                layer = [
                    (chain + [deed], late)
                    for chain, row in layer[:9] for deed, late in let_by_hand(house, row).items()]

    def test_judges_judge_any_object(self):
        for judge in (is_chain, is_shortest_chain):
            check_refuses_objects(self, judge, WAYS, loose(), FROM, TO)
            check_refuses_objects(self, judge, [], loose(), FROM, list(FROM))
            for value in wrong_chains() + [[], WAYS[:2], WAYS + [("up", 0)], [("up", 0)] + WAYS]:
                self.assertIs(check_leaves_arguments(self, judge, loose(), FROM, TO, value), False)
        there_and_back = WAYS + [("down", 1), ("up", 1)]
        self.assertIs(is_chain(loose(), FROM, TO, there_and_back), True)
        self.assertIs(is_shortest_chain(loose(), FROM, TO, there_and_back), False)


class Steps(unittest.TestCase):
    """[32]"""

    def test_by_the_words(self):
        for house, one, other in PAIRS:
            outs = outs_by_hand(house, one, other)
            steps = steps_by_hand(outs)
            self.assertEqual(check_leaves_arguments(self, steps_between, house, one, other), steps)
            for step in steps:
                waited = [early for early in steps if waits_by_hand(house, one, outs, step, early)]
                last = {}
                for place, at in waited:
                    last[place] = max(at, last.get(place, 0))
                told = check_leaves_arguments(self, waits_for, house, one, other, step)
                self.assertEqual(told, sorted(last.items()))

    def test_shortest_chains_are_the_orders_that_wait(self):
        for house, one, other in PAIRS:
            if ways_from(house, one)[tuple(other)][1] > 300:
                continue
            waits = {step: waits_for(house, one, other, step) for step in steps_between(house, one, other)}
            found = [[]]
            for _ in waits:
                found = [
                    order + [step] for order in found for step in waits
                    if step not in order and all(early in order for early in waits[step])]
            outs = outs_by_hand(house, one, other)
            chains = [[("up" if outs[place] > 0 else "down", place) for place, _ in order] for order in found]
            self.assertEqual(sorted(chains), sorted(shortest_chains_by_hand(house, one, other)))

    def test_wrong_steps(self):
        least, greatest = [4, 3, 0], [1, 0, 2]
        for wrong in wrong_steps():
            expect_error(self, InvalidSteps, wrong, waits_for, loose(), least, greatest, wrong)
            expect_error(self, InvalidSteps, wrong, waits_for, loose(), list(least), list(least), wrong)
            # Looked for behind Apart.
            apart = [0, 0, 0]
            expect_error(self, Apart, apart, waits_for, loose(), least, apart, wrong)
        # The t-th deed down is a step (j, t), too.
        self.assertEqual(waits_for(loose(), greatest, least, (1, 2)), [(0, 1), (1, 1)])
        for wrong in [(1, -1), (0, -1), (1, 0)]:
            expect_error(self, InvalidSteps, wrong, waits_for, loose(), greatest, least, wrong)
        for wrong in [(0, 1), None, []]:
            expect_error(self, InvalidSteps, wrong, waits_for, House([], [5]), [3], [3], wrong)


class Rounds(unittest.TestCase):
    """[33]"""

    def test_against_all_orders(self):
        for house in small_houses() + SOME:
            for row in rows_of(house)[::4]:
                rounds = {tuple(deeds): late for deeds, late in rounds_at(house, row)}
                lists = [[]]
                for place in range(house.places() - 1):
                    lists += [deeds + [(word, place)] for deeds in lists for word in ("up", "down")]
                for deeds in lists:
                    is_so = tuple(deeds) in rounds
                    self.assertIs(check_leaves_arguments(self, is_round, house, row, deeds), is_so)
                    if is_so:
                        late = check_leaves_arguments(self, behind_round, house, row, deeds)
                        self.assertEqual(late, rounds[tuple(deeds)])
                    else:
                        expect_error(self, Refused, deeds, behind_round, house, row, deeds)

    def test_order_and_places(self):
        row = [6, 0, 4, 0]
        self.assertIs(is_round(WIDE, row, [("up", 0), ("up", 2)]), True)
        for value in [[("up", 2), ("up", 0)], [("up", 0), ("up", 0)], [("up", 0), ("down", 0)], []]:
            self.assertIs(is_round(WIDE, row, value), False)
            expect_error(self, Refused, value, behind_round, WIDE, row, value)
        # Let one behind the other, but not in the contrary order.
        self.assertIs(is_round(loose(), [4, 1, 1], [("up", 0), ("up", 1)]), False)
        self.assertEqual(row_behind(loose(), [4, 1, 1], [("up", 0), ("up", 1)]), [1, 0, 2])

    def test_are_rounds(self):
        for house, one, other in PAIRS[::5]:
            layer = [([], one)]
            for _ in range(3):
                for value, row in layer:
                    self.assertIs(check_leaves_arguments(self, are_rounds, house, one, other, value), row == other)
                layer = [(value + [deeds], late) for value, row in layer[:9] for deeds, late in rounds_at(house, row)]

    def test_judges_judge_any_object(self):
        row = [6, 0, 4, 0]
        check_refuses_objects(self, is_round, [("up", 0), ("down", 1), ("up", 2)], WIDE, row)
        rounds = [[("up", 0), ("up", 2)], [("up", 0)], [("up", 0), ("up", 1)]]
        check_refuses_objects(self, are_rounds, rounds, WIDE, row, [0, 1, 2, 1])
        check_refuses_objects(self, are_rounds, [], WIDE, row, list(row))
        for value in [rounds[:2], rounds + [[]], [[]] + rounds, rounds + [[("up", 0)]], rounds[::-1], rounds[0]]:
            self.assertIs(are_rounds(WIDE, row, [0, 1, 2, 1], value), False)
        for value in wrong_chains():
            self.assertIs(check_leaves_arguments(self, is_round, loose(), [4, 1, 1], value), False)

    def test_wrong_arguments(self):
        wrong_lists = [value for value in wrong_chains() if not isinstance(value, list) or not all(
            isinstance(deed, tuple) and len(deed) == 2 and deed[0] in ("up", "down") and type(deed[1]) is int
            and deed[1] in (0, 1) for deed in value)]
        deeds = Argument("deeds", [("up", 0)], InvalidChain, wrong_lists)
        check_wrong_arguments(self, behind_round, a_house(loose()), a_row([4, 1, 1]), deeds)
        check_judge(self, is_round, [None, [("up", 0)]], a_house(loose()), a_row([4, 1, 1]))
        for wrong in wrong_rows():
            expect_error(self, InvalidRow, wrong, behind_round, loose(), wrong, [("up", 1)])
        for wrong in [None, 0, []]:
            expect_error(self, InvalidHouse, wrong, behind_round, wrong, [4, 1, 1], [("up", 1)])
        # A single place has no deeds, and so no rounds.
        nothing, up = [], [("up", 0)]
        expect_error(self, Refused, nothing, behind_round, House([], [5]), [3], nothing)
        expect_error(self, InvalidChain, up, behind_round, House([], [5]), [3], up)


class Fewest(unittest.TestCase):
    """[34], [35]"""

    def test_against_rounds_of_any_deeds(self):
        for house in small_houses() + many_small_houses()[::5] + SOME[:2]:
            for rows in classes_by_hand(house):
                for one in rows[::1 + len(rows) // 4]:
                    for other, fewest in rounds_from(house, one).items():
                        told = check_leaves_arguments(self, fewest_rounds, house, one, list(other))
                        self.assertEqual(told, fewest)

    def test_each_step_as_early_as_can_be(self):
        for house, one, other in PAIRS:
            outs = outs_by_hand(house, one, other)
            steps = steps_by_hand(outs)
            whens = {}
            while len(whens) < len(steps):
                for step in steps:
                    waited = [early for early in steps if waits_by_hand(house, one, outs, step, early)]
                    if step not in whens and all(early in whens for early in waited):
                        whens[step] = 1 + max([whens[early] for early in waited] + [0])
            wanted = [[whens[step] for step in steps if step[0] == place] for place in range(len(outs))]
            self.assertEqual(check_leaves_arguments(self, moments, house, one, other), wanted)
            words = ["up" if out > 0 else "down" for out in outs]
            rounds = [
                [(words[place], place) for place, at in steps if whens[(place, at)] == number]
                for number in range(1, 1 + max(list(whens.values()) + [0]))]
            self.assertEqual(check_leaves_arguments(self, rounds_for, house, one, other), rounds)
            self.assertIs(are_rounds(house, one, other, rounds), True)
            self.assertEqual(sum(len(deeds) for deeds in rounds), fewest_deeds(house, one, other))
            self.assertEqual(len(rounds), fewest_rounds(house, one, other))

    def test_necks(self):
        for house, one, other in PAIRS:
            outs = outs_by_hand(house, one, other)
            told = check_leaves_arguments(self, neck, house, one, other)
            self.assertEqual(len(told), fewest_rounds(house, one, other))
            self.assertTrue(all(step in steps_by_hand(outs) for step in told))
            for early, late in zip(told, told[1:]):
                self.assertTrue(waits_by_hand(house, one, outs, late, early))
            self.assertIs(is_neck(house, one, other, told), True)

    def test_is_neck(self):
        for house, one, other in PAIRS[::3]:
            outs = outs_by_hand(house, one, other)
            steps = steps_by_hand(outs)
            self.assertIs(is_neck(house, one, other, []), True)
            for early in steps:
                self.assertIs(check_leaves_arguments(self, is_neck, house, one, other, [early]), True)
                for late in steps:
                    is_so = waits_by_hand(house, one, outs, late, early)
                    self.assertIs(is_neck(house, one, other, [early, late]), is_so)
                    self.assertIs(is_neck(house, one, other, [early, late, early]), False)

    def test_not_only_for_the_last_one_at_its_place(self):
        steep = House([2, 2], [8, 2, 2])
        self.assertEqual(waits_for(steep, [8, 0, 0], [0, 0, 2], (1, 2)), [(0, 4), (1, 1)])
        for early in [(0, 1), (0, 2), (0, 3), (0, 4), (1, 1)]:
            self.assertIs(is_neck(steep, [8, 0, 0], [0, 0, 2], [early, (1, 2)]), True)
        # At its own place a step waits for the one ahead of it alone.
        self.assertIs(is_neck(steep, [8, 0, 0], [0, 0, 2], [(0, 1), (0, 2)]), True)
        self.assertIs(is_neck(steep, [8, 0, 0], [0, 0, 2], [(0, 1), (0, 3)]), False)

    def test_is_neck_judges_any_object(self):
        check_refuses_objects(self, is_neck, [(1, 1), (0, 1), (1, 2)], loose(), FROM, TO, right=[[]])
        for wrong in wrong_steps():
            self.assertIs(check_leaves_arguments(self, is_neck, loose(), FROM, TO, [wrong]), False)
            self.assertIs(is_neck(loose(), FROM, TO, [(1, 1), wrong]), False)

    def test_great_houses(self):
        for base in (2, 3, 7):
            house = House([base] * 7, [60] * 8)
            for one in ([30] * 8, [60, 0] * 4):
                least, greatest = least_row(house, one), greatest_row(house, one)
                chain = shortest_chain(house, least, greatest)
                self.assertEqual(len(chain), fewest_deeds(house, greatest, least))
                self.assertIs(is_shortest_chain(house, least, greatest, chain), True)
                rounds = rounds_for(house, greatest, least)
                self.assertIs(are_rounds(house, greatest, least, rounds), True)
                found = neck(house, greatest, least)
                self.assertEqual([len(found), is_neck(house, greatest, least, found)], [len(rounds), True])


class Arguments(unittest.TestCase):
    def test_wrong_arguments(self):
        for function in (fewest_deeds, shortest_chain, first_deeds, many_shortest, steps_between, fewest_rounds,
                         rounds_for, moments, neck):
            check_wrong_arguments(self, function, *two_rows())
        check_wrong_arguments(self, waits_for, *two_rows(), Argument("step", (1, 2), InvalidSteps, wrong_steps()))
        for judge in (is_chain, is_shortest_chain, are_rounds, is_neck):
            check_judge(self, judge, [None, WAYS, []], *two_rows())

    def test_apart(self):
        for house, one, other in [(loose(), FROM, [4, 3, 1]), (tight(), [0, 0, 0, 1], [0, 0, 1, 0]),
                                  (House([2, 2], [3, 1, 2]), [3, 1, 0], [1, 0, 1]), (House([], [5]), [3], [2])]:
            for function in (fewest_deeds, shortest_chain, first_deeds, many_shortest, steps_between, fewest_rounds,
                             rounds_for, moments, neck):
                check_apart(self, function, house, one, other)
            for judge in (is_chain, is_shortest_chain, are_rounds, is_neck, waits_for):
                for value in [None, [], (0, 1), WAYS]:
                    check_apart(self, judge, house, one, other, value)

    def test_edges(self):
        for house, row in ((House([], [5]), [3]), (House([2, 2], [1, 1, 1]), [1, 0, 1]), (loose(), [4, 1, 1])):
            nothing = [[] for _ in range(house.places() - 1)]
            for function, told in ((fewest_deeds, 0), (shortest_chain, []), (first_deeds, []), (many_shortest, 1),
                                   (steps_between, []), (fewest_rounds, 0), (rounds_for, []), (moments, nothing),
                                   (neck, [])):
                self.assertEqual(function(house, row, list(row)), told)
            for judge in (is_chain, is_shortest_chain, are_rounds, is_neck):
                self.assertIs(judge(house, row, list(row), []), True)

    def test_fresh(self):
        for function in (shortest_chain, first_deeds, steps_between, rounds_for, moments, neck):
            check_fresh(self, function, loose(), FROM, TO)
            check_fresh(self, function, loose(), FROM, list(FROM))
        check_fresh(self, waits_for, loose(), FROM, TO, (1, 2))
        check_fresh(self, behind_round, WIDE, [6, 0, 4, 0], [("up", 0), ("up", 2)])


if __name__ == "__main__":
    unittest.main()

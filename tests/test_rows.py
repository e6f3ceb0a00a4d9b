"""Points [2] and [16] to [21]: the functions of carryways.rows."""

import unittest

from carryways.errors import InvalidChain, InvalidDeed, InvalidHouse, InvalidPlace, InvalidRow, Refused
from carryways.houses import House, weights
from carryways.rows import (
    chain_back, deed_between, deeds_counted, deeds_let, done, first_unlike, is_alone, is_chain_from, is_let, is_row,
    many_things, row_behind, rows_beside, rows_on, same_up_to, worth_of,
)
from tests.plain import by_hand, deeds_of
from tests.support import (
    Argument, a_house, a_row, check_fresh, check_leaves_arguments, check_wrong_arguments, expect_error, loose, rows_of,
    small_houses, wrong_chains, wrong_deeds, wrong_places, wrong_rows,
)

ROW = [4, 1, 1]
WAYS = [("up", 1), ("up", 0), ("up", 1)]


def some_chains(house, row, longest):
    """All chains from a row of at most so many deeds, each with the rows on its way."""
    found = last = [([], [row])]
    for _ in range(longest):
        last = [
            (chain + [deed], rows + [by_hand(house, rows[-1], deed)])
            for chain, rows in last for deed in deeds_of(house) if by_hand(house, rows[-1], deed) is not None]
        found = found + last
    return found


def houses_and_rows():
    return [(house, row) for house in small_houses() for row in rows_of(house)]


class Rows(unittest.TestCase):
    """[16]"""

    def test_is_row(self):
        for house, row in houses_and_rows():
            self.assertIs(check_leaves_arguments(self, is_row, house, row), True)
            self.assertIs(is_row(house, tuple(row)), False)
            self.assertIs(is_row(house, row + [0]), False)
            self.assertIs(is_row(house, row[1:]), False)
            for place in range(house.places()):
                for count in (-1, house.rooms()[place] + 1, True, False, None, "0"):
                    self.assertIs(is_row(house, row[:place] + [count] + row[place + 1:]), False)

    def test_is_row_judges_any_object(self):
        for value in wrong_rows():
            self.assertIs(check_leaves_arguments(self, is_row, loose(), value), False)
        self.assertIs(is_row(house=loose(), value=ROW), True)
        self.assertIs(is_row(House([], [0]), [0]), True)
        self.assertIs(is_row(House([], [0]), [1]), False)

    def test_worth_and_things(self):
        for house, row in houses_and_rows():
            worth = sum(count * weight for count, weight in zip(row, weights(house)))
            self.assertEqual(check_leaves_arguments(self, worth_of, house, row), worth)
            self.assertEqual(check_leaves_arguments(self, many_things, house, row), sum(row))

    def test_wrong_arguments(self):
        for function in (worth_of, many_things, deeds_let, rows_beside, is_alone):
            check_wrong_arguments(self, function, a_house(loose()), a_row(ROW))
        for wrong in a_house(loose()).wrong:
            for value in [ROW] + wrong_rows():
                expect_error(self, InvalidHouse, wrong, is_row, wrong, value)


class Deeds(unittest.TestCase):
    """[17]"""

    def test_by_their_meaning(self):
        for house, row in houses_and_rows():
            let = [deed for deed in deeds_of(house) if by_hand(house, row, deed) is not None]
            self.assertEqual(check_leaves_arguments(self, deeds_let, house, row), let)
            for deed in deeds_of(house):
                self.assertIs(check_leaves_arguments(self, is_let, house, row, deed), deed in let)
                if deed in let:
                    came = check_leaves_arguments(self, done, house, row, deed)
                    self.assertEqual(came, by_hand(house, row, deed))
                    self.assertEqual(worth_of(house, came), worth_of(house, row))
                else:
                    expect_error(self, Refused, deed, done, house, row, deed)

    def test_deeds_at_the_edges_of_the_rooms(self):
        house = House([3], [4, 1])
        self.assertEqual(deeds_let(house, [3, 0]), [("up", 0)])
        self.assertEqual(deeds_let(house, [2, 0]), [])
        self.assertEqual(deeds_let(house, [3, 1]), [])
        self.assertEqual(deeds_let(house, [1, 1]), [("down", 0)])
        self.assertEqual(deeds_let(house, [2, 1]), [])

    def test_no_deed_at_a_stiff_place(self):
        house = House([2, 3, 2], [3, 1, 1, 2])
        for row in rows_of(house):
            self.assertEqual([place for _, place in deeds_let(house, row) if place > 0], [])

    def test_no_deed_in_a_house_of_one_place(self):
        for value in [("up", 0), ("down", 0), ("up", -1), None]:
            for function in (is_let, done):
                expect_error(self, InvalidDeed, value, function, House([], [5]), [3], value)

    def test_wrong_arguments(self):
        deed = Argument("deed", ("up", 0), InvalidDeed, wrong_deeds())
        for function in (is_let, done):
            check_wrong_arguments(self, function, a_house(loose()), a_row(ROW), deed)

    def test_refused_comes_behind_wrong_ones(self):
        deed = ("up", 1)
        expect_error(self, Refused, deed, done, loose(), ROW, deed)
        for wrong in wrong_rows():
            expect_error(self, InvalidRow, wrong, done, loose(), wrong, deed)

    def test_fresh(self):
        check_fresh(self, deeds_let, loose(), ROW)
        check_fresh(self, done, loose(), ROW, ("up", 0))


class Beside(unittest.TestCase):
    """[18]"""

    def test_by_their_meaning(self):
        for house, row in houses_and_rows():
            came = {deed: by_hand(house, row, deed) for deed in deeds_of(house)}
            beside = sorted(late for late in came.values() if late is not None)
            self.assertEqual(check_leaves_arguments(self, rows_beside, house, row), beside)
            self.assertIs(check_leaves_arguments(self, is_alone, house, row), beside == [])
            for other in rows_of(house):
                between = [deed for deed in came if came[deed] == other]
                expected = between[0] if between else None
                self.assertEqual(check_leaves_arguments(self, deed_between, house, row, other), expected)

    def test_ascending_and_not_in_the_order_of_the_deeds(self):
        self.assertEqual(rows_beside(House([2, 2], [5, 5, 5]), [2, 2, 2]), [[0, 3, 2], [2, 0, 3], [2, 4, 1], [4, 1, 2]])

    def test_one_place_is_alone(self):
        for count in range(3):
            self.assertEqual(rows_beside(House([], [2]), [count]), [])
            self.assertIs(is_alone(House([], [2]), [count]), True)
            self.assertIsNone(deed_between(House([], [2]), [count], [2 - count]))

    def test_wrong_arguments(self):
        for function in (deed_between, first_unlike):
            check_wrong_arguments(self, function, a_house(loose()), a_row(ROW, "one"), a_row([1, 2, 1], "other"))

    def test_fresh(self):
        check_fresh(self, rows_beside, loose(), ROW)


class Chains(unittest.TestCase):
    """[19], [20]"""

    def test_all_short_chains(self):
        for house, row in houses_and_rows():
            for chain, rows in some_chains(house, row, 3):
                self.assertIs(check_leaves_arguments(self, is_chain_from, house, row, chain), True)
                self.assertEqual(check_leaves_arguments(self, rows_on, house, row, chain), rows)
                self.assertEqual(check_leaves_arguments(self, row_behind, house, row, chain), rows[-1])
                for deed in deeds_of(house):
                    longer = chain + [deed]
                    self.assertIs(is_chain_from(house, row, longer), by_hand(house, rows[-1], deed) is not None)

    def test_chain_back(self):
        for house, row in houses_and_rows():
            for chain, rows in some_chains(house, row, 3):
                back = check_leaves_arguments(self, chain_back, house, row, chain)
                self.assertEqual(rows_on(house, rows[-1], back), rows[::-1])
                self.assertEqual(chain_back(house, rows[-1], back), chain)

    def test_deeds_counted(self):
        for house, row in houses_and_rows():
            for chain, rows in some_chains(house, row, 3):
                counted = [chain.count(("up", at)) - chain.count(("down", at)) for at in range(house.places() - 1)]
                self.assertEqual(check_leaves_arguments(self, deeds_counted, house, row, chain), counted)

    def test_the_empty_chain(self):
        for house, row in houses_and_rows():
            self.assertIs(is_chain_from(house, row, []), True)
            self.assertEqual(rows_on(house, row, []), [row])
            self.assertEqual(row_behind(house, row, []), row)
            self.assertEqual(chain_back(house, row, []), [])
            self.assertEqual(deeds_counted(house, row, []), [0] * (house.places() - 1))

    def test_long_chains(self):
        house = House([2] * 7, [60] * 8)
        chain = [("up", 3), ("down", 3)] * 210
        self.assertEqual(row_behind(house, [9] * 8, chain), [9] * 8)
        self.assertEqual(deeds_counted(house, [9] * 8, chain + [("up", 6)]), [0, 0, 0, 0, 0, 0, 1])
        self.assertIs(is_chain_from(house, [9] * 8, [("up", 3)] * 5), False)

    def test_is_chain_from_judges_any_object(self):
        for value in wrong_chains():
            self.assertIs(check_leaves_arguments(self, is_chain_from, loose(), ROW, value), False)
        self.assertIs(is_chain_from(house=loose(), row=[4, 3, 0], value=WAYS), True)
        self.assertIs(is_chain_from(House([], [5]), [3], [("up", 0)]), False)

    def test_wrong_arguments(self):
        chain = Argument("chain", [("up", 0), ("up", 1)], InvalidChain, wrong_chains())
        for function in (rows_on, row_behind, chain_back, deeds_counted):
            check_wrong_arguments(self, function, a_house(loose()), a_row(ROW), chain)
        # Judges raise for the others what these raise, whatever the value is.
        for value in [[]] + wrong_chains():
            for wrong in a_house(loose()).wrong:
                expect_error(self, InvalidHouse, wrong, is_chain_from, wrong, ROW, value)
            for wrong in wrong_rows():
                expect_error(self, InvalidRow, wrong, is_chain_from, loose(), wrong, value)

    def test_fresh(self):
        for function in (rows_on, row_behind, chain_back, deeds_counted):
            check_fresh(self, function, loose(), [4, 3, 0], WAYS)
        for function in (rows_on, row_behind):
            check_fresh(self, function, loose(), [4, 3, 0], [])


class Differences(unittest.TestCase):
    """[21]"""

    def test_first_unlike(self):
        for house, one in houses_and_rows():
            for other in rows_of(house):
                unlike = [place for place in range(house.places()) if one[place] != other[place]]
                expected = unlike[0] if unlike else None
                self.assertEqual(check_leaves_arguments(self, first_unlike, house, one, other), expected)

    def test_same_up_to(self):
        for house, one in houses_and_rows():
            weight = weights(house)
            for other in rows_of(house):
                held = 0
                for place in range(house.places()):
                    held += (one[place] - other[place]) * weight[place]
                    self.assertIs(same_up_to(house, one, other, place), held == 0)

    def test_rows_that_differ_in_no_place(self):
        for house, row in houses_and_rows():
            self.assertIsNone(first_unlike(house, row, list(row)))
            for place in range(house.places()):
                self.assertIs(same_up_to(house, row, list(row), place), True)

    def test_wrong_arguments(self):
        place = Argument("place", 1, InvalidPlace, wrong_places())
        check_wrong_arguments(
            self, same_up_to, a_house(loose()), a_row(ROW, "one"), a_row([1, 2, 1], "other"), place)
        self.assertIs(check_leaves_arguments(self, same_up_to, loose(), ROW, [1, 2, 1], 2), True)


if __name__ == "__main__":
    unittest.main()

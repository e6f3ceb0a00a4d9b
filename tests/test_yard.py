"""Points [2] and [95] to [104]: carryways.yard."""

import random
import unittest

from carryways.errors import (
    CarryError, InvalidDeed, InvalidHouse, InvalidNumber, InvalidPlace, InvalidRecord, InvalidRow, InvalidSpot,
    InvalidYard, NothingToRedo, NothingToUndo, Refused,
)
from carryways.houses import House
from carryways.yard import Yard, replayed
from tests.plain import shortest_chains_by_hand
from tests.support import (
    expect_error, kinds_changed, loose, no_houses, no_yards, odd_objects, snapshot, spoil, tight, wrong_counts,
    wrong_deeds,
    wrong_numbers, wrong_places, wrong_rows,
)
from tests.yards import PlainYard, check_same, do_both, drawn

HOUSES = [
    loose(), tight(), House([2, 2], [4, 3, 2]), House([], [5]), House([2], [4, 0]), House([2, 3], [5, 2, 1]),
    House([2, 2, 2], [2, 2, 2, 2]), House([3], [7, 2]),
]


class Left(Exception):
    """What a block is left by."""


def told_by(yard):
    """All that the methods of a yard tell; what can be undone and made again, too."""
    late = yard.copy()
    found = [states_of(late)]
    for back in ("undo", "redo", "redo"):
        try:
            while True:
                getattr(late, back)()
                found.append((back, states_of(late)))
        except (NothingToUndo, NothingToRedo):
            pass
    return found


def states_of(yard):
    spots = yard.spots()
    words = ("row_there", "aim_there", "deeds_there", "is_met", "way", "alike_spots")
    told = [[getattr(yard, word)(spot) for word in words] for spot in spots]
    return snapshot([yard.house(), spots, told, yard.farthest_spots(), yard.record()])


def a_yard():
    """A yard with things to undo and to make again; spot 1 has an aim, spot 2 has none, spot 3 was taken back."""
    yard = Yard(loose())
    for row in ([4, 1, 1], [4, 1, 1], [0, 0, 0], [1, 1, 1]):
        yard.put(row)
    yard.undo()
    yard.aim(1, [1, 0, 2])
    yard.make(0, ("up", 0))
    yard.make(0, ("down", 0))
    yard.undo()
    return yard


class Commands(unittest.TestCase):
    """[95] to [100], [102], [103]"""

    def test_commands_drawn(self):
        for seed in range(48):
            chance, house = random.Random(seed), HOUSES[seed % len(HOUSES)]
            yard, plain = Yard(house), PlainYard(house)
            for _ in range(40):
                do_both(self, yard, plain, drawn(chance, plain))
                check_same(self, yard, plain)
            late = replayed(Yard(house), yard.record())
            check_same(self, late, plain)

    def test_a_new_yard(self):
        for house in HOUSES:
            yard = Yard(house)
            self.assertEqual([yard.house(), yard.spots(), yard.record(), yard.farthest_spots()], [house, [], [], []])
            self.assertTrue(yard == yard)
        for wrong in no_houses():
            expect_error(self, InvalidHouse, wrong, Yard, wrong)
            expect_error(self, InvalidHouse, wrong, Yard, house=wrong)

    def test_numbers_are_not_given_again(self):
        yard = Yard(loose())
        self.assertEqual([yard.put([0, 0, 0]), yard.put([1, 0, 0])], [0, 1])
        yard.take(1)
        self.assertEqual([yard.put([2, 0, 0]), yard.spots()], [2, [0, 2]])
        # A put that is taken back counts as never made.
        yard.undo()
        self.assertEqual([yard.put([3, 0, 0]), yard.row_there(2)], [2, [3, 0, 0]])
        with yard.trial():
            self.assertEqual([yard.put([4, 0, 0]), yard.put([4, 1, 0])], [3, 4])
        self.assertEqual(yard.put([4, 2, 0]), 3)
        yard.take(0)
        yard.take(3)
        self.assertEqual([yard.put([0, 0, 1]), yard.spots()], [4, [2, 4]])

    def test_what_the_commands_return(self):
        yard = Yard(loose())
        told = [yard.put([4, 1, 1]), yard.go(0, [1, 0, 2]), yard.lower(0), yard.lift(0), yard.come(0, 0, 1)]
        self.assertEqual(told, [0, 2, None, None, None])
        told = [yard.aim(0, yard.row_there(0)), yard.let_go(0), yard.put([0, 0, 0]), yard.pour(0, 1), yard.undo()]
        self.assertEqual(told, [None, None, 1, None, None])
        self.assertEqual([yard.redo(), yard.take(0), yard.spots()], [None, None, []])

    def test_ways(self):
        for house, one, other in ((loose(), [4, 3, 0], [1, 0, 2]),
                (House([2, 2, 3], [6, 3, 4, 2]), [6, 0, 4, 0], [0, 1, 2, 1])):
            yard = Yard(house)
            yard.put(one)
            for value in ([], [("up", 0)], None, (), {}, 0, [None], True):
                self.assertIs(yard.is_way(0, value), value == [] and type(value) is list)
            self.assertEqual([yard.way(0), yard.is_met(0)], [[], True])
            yard.aim(0, one)
            self.assertEqual([yard.way(0), yard.is_met(0), yard.is_way(0, []), yard.is_way(0, ())],
                [[], True, True, False])
            yard.aim(0, other)
            chains = shortest_chains_by_hand(house, one, other)
            self.assertEqual([yard.is_met(0), yard.way(0) in chains, yard.is_way(0, [])], [False, True, False])
            for chain in chains:
                self.assertIs(yard.is_way(0, chain), True)
                for value in kinds_changed(chain) + [chain[1:], chain[::-1], chain + [("down", 0), ("up", 0)]]:
                    self.assertIs(yard.is_way(0, value), snapshot(value) in [snapshot(late) for late in chains])

    def test_undo_and_redo_to_both_ends(self):
        yard = Yard(loose())
        for call in (yard.undo, yard.redo):
            with self.assertRaises(CarryError) as caught:
                call()
            self.assertIn(type(caught.exception), (NothingToUndo, NothingToRedo))
            self.assertEqual(vars(caught.exception), {})
        states = [states_of(yard)]
        for command in (("put", [4, 1, 1]), ("aim", 0, [1, 0, 2]), ("lift", 0), ("let_go", 0), ("put", [0, 0, 0]),
                        ("come", 0, 0, 3), ("pour", 0, 1), ("take", 0)):
            getattr(yard, command[0])(*command[1:])
            states.append(states_of(yard))
        for state in states[-2::-1]:
            yard.undo()
            self.assertEqual(states_of(yard), state)
        self.assertRaises(NothingToUndo, yard.undo)
        for state in states[1:]:
            yard.redo()
            self.assertEqual(states_of(yard), state)
        self.assertRaises(NothingToRedo, yard.redo)
        # A new command ends what can be made again; questions and errors do not.
        yard.undo()
        yard.undo()
        yard.row_there(0)
        self.assertRaises(Refused, yard.let_go, 0)
        yard.redo()
        yard.undo()
        yard.take(1)
        self.assertRaises(NothingToRedo, yard.redo)


class WrongArguments(unittest.TestCase):
    """The errors of each method, their order, and that nothing changes behind them."""

    def wrong_spots(self):
        return wrong_counts() + [3, 4, 10 ** 20, [0], (0,)]

    def check(self, error, value, word, *things):
        yard = a_yard()
        ahead = told_by(yard)
        expect_error(self, error, value, getattr(yard, word), *things)
        self.assertEqual(told_by(yard), ahead)

    def test_spots(self):
        alone = ("take", "row_there", "aim_there", "deeds_there", "lower", "lift", "let_go", "is_met", "way",
            "alike_spots")
        for wrong in self.wrong_spots():
            for word in alone:
                self.check(InvalidSpot, wrong, word, wrong)
            for value in (None, []):
                self.check(InvalidSpot, wrong, "is_way", wrong, value)
            for deed in [("up", 0), ("down", 0), None]:
                self.check(InvalidSpot, wrong, "make", wrong, deed)
            for row in ([4, 1, 1], [1, 0, 2], None):
                self.check(InvalidSpot, wrong, "go", wrong, row)
                self.check(InvalidSpot, wrong, "aim", wrong, row)
            for place, number in ((0, -1), (None, 1), (0, None), (0, 0), (0, 99)):
                self.check(InvalidSpot, wrong, "come", wrong, place, number)
            for spot in (0, 1, 2, None):
                self.check(InvalidSpot, wrong, "pour", wrong, spot)
            for spot in (0, 1, 2):
                self.check(InvalidSpot, wrong, "pour", spot, wrong)
        for spot in (0, 1, 2):
            self.check(InvalidSpot, spot, "pour", spot, spot)

    def test_rows_and_deeds(self):
        for wrong in wrong_rows():
            self.check(InvalidRow, wrong, "put", wrong)
            self.check(InvalidRow, wrong, "go", 0, wrong)
            self.check(InvalidRow, wrong, "aim", 1, wrong)
        for wrong in wrong_deeds():
            self.check(InvalidDeed, wrong, "make", 0, wrong)
        for deed in (("up", 0), ("down", 1)):
            self.check(Refused, deed, "make", 2, deed)
        for row in ([0, 0, 0], [4, 3, 2], [1, 1, 1], [1, 2, 1]):
            self.check(Refused, row, "go", 0, row)
        for row in ([0, 0, 0], [4, 3, 2], [1, 1, 1]):
            self.check(Refused, row, "aim", 0, row)

    def test_comes(self):
        for wrong in wrong_places():
            for number in (1, 0, None, 99):
                self.check(InvalidPlace, wrong, "come", 0, wrong, number)
                self.check(InvalidPlace, wrong, "come", 1, wrong, number)
        for wrong in wrong_numbers() + [0]:
            self.check(InvalidNumber, wrong, "come", 0, 0, wrong)
            self.check(InvalidNumber, wrong, "come", 1, 0, wrong)
        for number in (4, -2, 99, -10 ** 29):
            self.check(Refused, number, "come", 0, 0, number)
        # With an aim: the number is looked at first.
        self.check(Refused, 9, "come", 1, 0, 9)
        self.check(Refused, 1, "come", 1, 0, -1)

    def test_what_is_refused_at_a_spot(self):
        for spot, words in ((2, ("lower", "lift", "let_go")), (0, ("let_go",))):
            for word in words:
                self.check(Refused, spot, word, spot)
        self.check(Refused, 1, "pour", 0, 1)
        self.check(Refused, 1, "pour", 1, 0)
        self.check(Refused, 1, "pour", 2, 1)
        yard = a_yard()
        yard.aim(0, [1, 2, 1])
        expect_error(self, Refused, 0, yard.pour, 0, 1)
        expect_error(self, Refused, 1, yard.pour, 1, 0)
        yard.let_go(0)
        yard.let_go(1)
        yard.go(0, [4, 3, 0])
        expect_error(self, Refused, 1, yard.pour, 0, 1)
        expect_error(self, Refused, 0, yard.pour, 1, 0)

    def test_arguments_by_name(self):
        yard = Yard(house=loose())
        self.assertEqual(yard.put(row=[4, 1, 1]), 0)
        yard.make(spot=0, deed=("up", 0))
        yard.aim(spot=0, row=[4, 3, 0])
        self.assertEqual([yard.aim_there(spot=0), yard.is_way(spot=0, value=[]), len(yard.way(spot=0))],
            [[4, 3, 0], False, 2])
        yard.go(spot=0, row=[4, 3, 0])
        yard.lift(spot=0)
        yard.lower(spot=0)
        yard.let_go(spot=0)
        yard.come(spot=0, place=0, number=-1)
        yard.put(row=[0, 0, 0])
        yard.pour(one=0, other=1)
        self.assertEqual([yard.row_there(spot=0), yard.deeds_there(spot=0), yard.is_met(spot=0)],
                         [[3, 3, 0], [("up", 1)], True])
        self.assertEqual([yard.alike_spots(spot=0), yard.attempt(action=lambda late: late.take(spot=0))], [[], None])


class Blocks(unittest.TestCase):
    """[2], [101], [102]"""

    def play_block(self, chance, yard, plain, depth):
        """A block of commands drawn, with blocks within it, that is left in one way or the other."""
        ahead, kept = told_by(yard), plain.kept()
        way = chance.choice(("trial", "error", "attempt", "wrong"))
        error = Left()

        def inside(late):
            self.assertIs(late, yard)
            for _ in range(chance.randint(2, 7)):
                do_both(self, yard, plain, drawn(chance, plain))
                check_same(self, yard, plain)
                if depth < 4 and chance.random() < 0.25:
                    self.play_block(chance, yard, plain, depth + 1)
            if way == "error":
                raise error
            return error

        if way == "trial":
            with yard.trial() as late:
                inside(late)
        elif way == "attempt":
            self.assertIs(yard.attempt(inside), error)
        else:
            way = "error"
            with self.assertRaises(Left) as caught:
                if chance.random() < 0.5:
                    yard.attempt(inside)
                else:
                    with yard.trial() as late:
                        inside(late)
            self.assertIs(caught.exception, error)
        plain.put_back(kept)
        self.assertEqual(told_by(yard), ahead)

    def test_blocks_drawn(self):
        for seed in range(24):
            chance, house = random.Random(1000 + seed), HOUSES[seed % len(HOUSES)]
            yard, plain = Yard(house), PlainYard(house)
            for _ in range(5):
                for _ in range(6):
                    do_both(self, yard, plain, drawn(chance, plain))
                self.play_block(chance, yard, plain, 1)
                check_same(self, yard, plain)

    def test_undo_reaches_ahead_of_the_block(self):
        yard = a_yard()
        ahead = told_by(yard)
        with yard.trial() as late:
            self.assertIs(late, yard)
            yard.redo()
            self.assertEqual(yard.row_there(0), [4, 1, 1])
            for _ in range(6):
                yard.undo()
            self.assertEqual([yard.spots(), yard.record()], [[], []])
            self.assertRaises(NothingToUndo, yard.undo)
            yard.put([0, 0, 1])
            self.assertRaises(NothingToRedo, yard.redo)
            self.assertEqual(yard.record(), [("put", [0, 0, 1])])
        self.assertEqual(told_by(yard), ahead)
        yard.redo()
        self.assertEqual(yard.row_there(0), [4, 1, 1])

    def test_a_block_begins_when_it_is_entered(self):
        yard = Yard(loose())
        block = yard.trial()
        yard.put([4, 1, 1])
        with block as late:
            self.assertIs(late, yard)
            yard.put([0, 0, 0])
        self.assertEqual(yard.spots(), [0])

    def test_errors_go_on(self):
        yard = a_yard()
        ahead = told_by(yard)
        with self.assertRaises(InvalidSpot) as caught:
            with yard.trial():
                yard.put([0, 0, 0])
                yard.take("nowhere")
        self.assertEqual(caught.exception.value, "nowhere")
        with self.assertRaises(ZeroDivisionError):
            yard.attempt(lambda late: late.put([0, 0, 0]) // 0 if late.take(1) is None else None)
        self.assertEqual(told_by(yard), ahead)

    def test_attempt_returns_the_very_object(self):
        yard, calls = a_yard(), []
        for told in (None, [], [1], "x", yard, True):
            self.assertIs(yard.attempt(lambda late, told=told: (calls.append(late), told)[1]), told)
        self.assertEqual([late is yard for late in calls], [True] * 6)
        self.assertIs(yard.attempt(lambda late: late), yard)

    def test_ten_blocks_deep(self):
        yard = Yard(House([], [9]))
        yard.put([0])

        def deeper(late, depth=0):
            late.come(0, 0, 1)
            if depth < 8:
                late.attempt(lambda again: deeper(again, depth + 1))
            self.assertEqual(late.row_there(0), [depth + 1])
        yard.attempt(deeper)
        self.assertEqual([yard.row_there(0), len(yard.record())], [[0], 1])


class Copies(unittest.TestCase):
    """[2], [104]"""

    def test_copies_go_their_own_ways(self):
        for seed in range(24):
            chance, house = random.Random(2000 + seed), HOUSES[seed % len(HOUSES)]
            twos = [(Yard(house), PlainYard(house))]
            for _ in range(30):
                yard, plain = chance.choice(twos)
                do_both(self, yard, plain, drawn(chance, plain))
                if len(twos) < 4 and chance.random() < 0.15:
                    late = PlainYard(house)
                    late.put_back(plain.kept())
                    twos.append((yard.copy(), late))
            for yard, plain in twos:
                check_same(self, yard, plain)
                while plain.commands:
                    do_both(self, yard, plain, ("undo",))
                while plain.back:
                    do_both(self, yard, plain, ("redo",))
                check_same(self, yard, plain)

    def test_a_copy_is_in_no_block(self):
        yard = a_yard()
        with yard.trial():
            yard.put([0, 0, 2])
            late = yard.copy()
            late.take(0)
            self.assertEqual(yard.spots(), [0, 1, 2, 3])
        self.assertEqual([yard.spots(), late.spots()], [[0, 1, 2], [1, 2, 3]])
        late.undo()
        late.undo()
        self.assertEqual(states_of(late), states_of(yard))
        self.assertIsNot(late, yard)

    def test_a_copy_is_the_same(self):
        yard = a_yard()
        self.assertEqual(told_by(yard.copy()), told_by(yard))
        self.assertEqual(told_by(yard.copy().copy()), told_by(yard))

    def test_replayed(self):
        yard = a_yard()
        ahead = told_by(yard)
        record = [("take", 2), ("put", [0, 0, 2]), ("lift", 0), ("let_go", 1), ("come", 3, 1, 1), ("pour", 3, 2)]
        for error, value, more in ((InvalidSpot, 2, ("lift", 2)), (Refused, 0, ("lift", 0)),
                (InvalidRow, None, ("put", None))):
            expect_error(self, InvalidSpot, 2, replayed, yard, record)
            some = record[:5] + [more]
            expect_error(self, error, value, replayed, yard, some)
        self.assertEqual(told_by(yard), ahead)
        late = replayed(yard, record[:5])
        self.assertEqual([late.spots(), late.row_there(3), late.record()],
            [[0, 1, 3], [0, 1, 2], yard.record() + record[:5]])
        self.assertEqual(told_by(yard), ahead)
        for _ in range(5):
            late.undo()
        self.assertEqual(states_of(late), states_of(yard))
        self.assertEqual(told_by(replayed(yard, [])), ahead)

    def wrong_records(self):
        right = ("put", [4, 1, 1])
        found = [0, 1, (), (right,), right, {0: right}, [list(right)], ["put"], [[right]], [()], [("put",)], [None]]
        found += [[("put", [4, 1, 1], 0)], [("make", 0)], [("go", 0)], [("come", 0, 0)], [("pour", 0)], [("aim", 0)]]
        found += [[("lower",)], [("lift",)], [("let_go",)], [("take",)], [("take", 0, 0)], [("come", 0, 0, 1, 1)]]
        found += [[("undo",)], [("redo",)], [("row_there", 0)], [("try", [])], [("Put", [4, 1, 1])], [("", 0)]]
        found += [[(None, 0)], [(0, 0)], [(["put"], 0)], [(("put",), 0)], [({}, 0)], [(loose(), 0)], [(True, 0)]]
        return odd_objects() + found + [[right, ("take", 9), wrong] for wrong in (None, ("put",), ["put", [4, 1, 1]])]

    def test_wrong_arguments(self):
        yard = a_yard()
        right = [("take", 0)]
        for wrong in no_yards():
            for record in self.wrong_records() + [right, []]:
                expect_error(self, InvalidYard, wrong, replayed, wrong, record)
            expect_error(self, InvalidYard, wrong, replayed, yard=wrong, record=right)
        ahead = told_by(yard)
        for wrong in self.wrong_records():
            expect_error(self, InvalidRecord, wrong, replayed, yard, wrong)
            expect_error(self, InvalidRecord, wrong, replayed, yard=yard, record=wrong)
        # Whatever stands behind the words is looked at by the commands.
        for error, at, record in (
                (InvalidSpot, 1, [("take", None)]), (InvalidRow, 1, [("put", yard)]),
                (InvalidNumber, 3, [("come", 0, 0, 0)]),
                (InvalidPlace, 2, [("come", 0, 5, 0)]), (InvalidDeed, 2, [("make", 0, [])]),
                (InvalidSpot, 1, [("lift", True), ("take", 0), ("put", 0)])):
            expect_error(self, error, record[0][at], replayed, yard, record)
            expect_error(self, error, record[0][at], replayed, yard, [("lift", 0)] + record)
        self.assertEqual(told_by(yard), ahead)


class Fresh(unittest.TestCase):
    def test_what_is_told_may_be_changed(self):
        yard = a_yard()
        yard.go(0, [4, 1, 1])
        yard.put([4, 3, 0])
        yard.aim(0, [1, 0, 2])
        ahead = told_by(yard)
        for told in (yard.spots(), yard.record(), yard.row_there(0), yard.aim_there(1), yard.deeds_there(0),
            yard.way(1),
                     yard.alike_spots(0), yard.farthest_spots(), yard.house().rooms()):
            self.assertNotIn(told, ([], None))
            spoil(told)
            self.assertEqual(told_by(yard), ahead)

    def test_what_is_handed_in_may_be_changed(self):
        yard, first, second, third = Yard(loose()), [4, 1, 1], [1, 0, 2], [4, 3, 0]
        yard.put(first)
        yard.go(0, second)
        yard.aim(0, third)
        ahead = told_by(yard)
        for row in (first, second, third):
            spoil(row)
        self.assertEqual(told_by(yard), ahead)
        record = yard.record()
        late = replayed(Yard(loose()), record)
        told = told_by(late)
        spoil(record)
        self.assertEqual([told_by(late), told_by(yard)], [told, ahead])


if __name__ == "__main__":
    unittest.main()

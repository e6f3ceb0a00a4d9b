"""A yard: spots with rows of a house and perhaps aims, commands that change them, and blocks that leave no trace."""

from carryways.chains import fewest_deeds, is_shortest_chain, shortest_chain
from carryways.checks import is_whole
from carryways.classes import joined
from carryways.ends import greatest_row, least_row
from carryways.errors import (
    InvalidNumber, InvalidRecord, InvalidSpot, InvalidYard, NothingToRedo, NothingToUndo, Refused,
)
from carryways.houses import check_house, check_place, check_row
from carryways.rows import check_deed, counts_behind, deeds_let, is_row
from carryways.serving import counts_come
from carryways.wishes import added

# How many things stand behind the word of each command.
THINGS = {
    "put": 1, "take": 1, "make": 2, "go": 2, "lower": 1, "lift": 1, "come": 3, "aim": 2, "let_go": 1, "pour": 2,
}


class Trial:
    """A block: when it is left, the yard is as it was when the block was entered."""

    def __init__(self, yard):
        self._yard = yard
        self._now = None
        self._done = None
        self._undone = None

    def __enter__(self):
        yard = self._yard
        self._now = yard._now
        self._done = yard._done
        self._undone = yard._undone
        return yard

    def __exit__(self, kind, value, trace):
        yard = self._yard
        yard._now = self._now
        yard._done = self._done
        yard._undone = self._undone


class Yard:
    """A yard of a house.

    What stands in the attributes is never changed, only replaced: so what was there before can be put back as it is.
    `_now` is the tuple of the dictionary from the spots to the tuples of row and aim, and the count for the next put;
    `_done` and `_undone` are lists of the tuples of a command and what was there before it, or behind it.
    """

    def __init__(self, house):
        check_house(house)
        self._house = house
        self._now = ({}, 0)
        self._done = []
        self._undone = []

    def house(self):
        """The house."""
        return self._house

    def put(self, row):
        """Puts a row at a new spot, and returns the spot."""
        check_row(self._house, row)
        there, spot = self._now
        self._change(("put", list(row)), {**there, spot: (list(row), None)}, spot + 1)
        return spot

    def take(self, spot):
        """Takes away what is at a spot."""
        self._check_spot(spot)
        self._change(("take", spot), self._without(spot), self._now[1])

    def spots(self):
        """The ascending list of the spots."""
        return sorted(self._now[0])

    def row_there(self, spot):
        """The row at a spot."""
        row, _ = self._at(spot)
        return list(row)

    def aim_there(self, spot):
        """The aim of a spot, None if it has none."""
        _, aim = self._at(spot)
        return list(aim) if aim is not None else None

    def deeds_there(self, spot):
        """The ascending list of the deeds that are let at a spot."""
        return deeds_let(self._house, self.row_there(spot))

    def make(self, spot, deed):
        """Makes a deed at a spot."""
        row, aim = self._at(spot)
        check_deed(self._house, deed)
        if deed not in self.deeds_there(spot):
            raise Refused(deed)
        self._set(("make", spot, deed), spot, counts_behind(self._house, row, deed), aim)

    def go(self, spot, row):
        """Puts another row of its class at a spot, and returns how many deeds at least lead to it."""
        early, aim = self._at(spot)
        if not joined(self._house, early, row) or row == early:
            raise Refused(row)
        self._set(("go", spot, list(row)), spot, list(row), aim)
        return fewest_deeds(self._house, early, row)

    def lower(self, spot):
        """Puts the least row of its class at a spot."""
        row, aim = self._at(spot)
        least = least_row(self._house, row)
        if row == least:
            raise Refused(spot)
        self._set(("lower", spot), spot, least, aim)

    def lift(self, spot):
        """Puts the greatest row of its class at a spot."""
        row, aim = self._at(spot)
        greatest = greatest_row(self._house, row)
        if row == greatest:
            raise Refused(spot)
        self._set(("lift", spot), spot, greatest, aim)

    def come(self, spot, place, number):
        """Lets so many things come to a place, or go from it, at a spot without an aim."""
        row, aim = self._at(spot)
        check_place(self._house, place)
        if not is_whole(number) or number == 0:
            raise InvalidNumber(number)
        late = counts_come(row, (place, number))
        if not is_row(self._house, late):
            raise Refused(number)
        if aim is not None:
            raise Refused(spot)
        self._set(("come", spot, place, number), spot, late, None)

    def aim(self, spot, row):
        """Gives a spot an aim, in the place of the one that it had."""
        early, _ = self._at(spot)
        if not joined(self._house, early, row):
            raise Refused(row)
        self._set(("aim", spot, list(row)), spot, early, list(row))

    def let_go(self, spot):
        """Takes the aim of a spot away."""
        row, aim = self._at(spot)
        if aim is None:
            raise Refused(spot)
        self._set(("let_go", spot), spot, row, None)

    def is_met(self, spot):
        """Whether the row at a spot is its aim, or it has none."""
        row, aim = self._at(spot)
        return aim is None or row == aim

    def way(self, spot):
        """A shortest chain from the row at a spot to its aim, [] where there is none."""
        row, aim = self._at(spot)
        return shortest_chain(self._house, row, aim) if aim is not None else []

    def is_way(self, spot, value):
        """Whether any object is a shortest chain from the row at a spot to its aim."""
        row, aim = self._at(spot)
        # Without an aim the row may stay where it is.
        return is_shortest_chain(self._house, row, aim if aim is not None else row, value)

    def pour(self, one, other):
        """Puts what is at two spots together at the one, and takes the other away."""
        row, aim = self._at(one)
        more, other_aim = self._at(other)
        if other == one:
            raise InvalidSpot(other)
        if aim is not None:
            raise Refused(one)
        if other_aim is not None:
            raise Refused(other)
        late = added(row, more)
        if not is_row(self._house, late):
            raise Refused(other)
        self._change(("pour", one, other), {**self._without(other), one: (late, None)}, self._now[1])

    def alike_spots(self, spot):
        """The ascending list of the other spots whose rows are of the class of the one there."""
        row = self.row_there(spot)
        others = [other for other in self.spots() if other != spot]
        return [other for other in others if joined(self._house, row, self.row_there(other))]

    def farthest_spots(self):
        """The ascending list of the spots from which most deeds lead to the greatest row of their class."""
        deeds = {spot: self._deeds_to_greatest(spot) for spot in self.spots()}
        most = max(deeds.values(), default=0)
        return [spot for spot in self.spots() if deeds[spot] == most]

    def trial(self):
        """A block in which the yard may be changed; it is as it was when the block is left."""
        return Trial(self)

    def attempt(self, action):
        """Calls a function with the yard in a block, and returns what it returns."""
        with self.trial() as yard:
            return action(yard)

    def copy(self):
        """An independent yard that is the same, and in no block."""
        late = Yard(self._house)
        late._now = self._now
        late._done = self._done
        late._undone = self._undone
        return late

    def undo(self):
        """Takes back the last command."""
        if self._done == []:
            raise NothingToUndo()
        command, early = self._done[-1]
        self._undone = self._undone + [(command, self._now)]
        self._done = self._done[:-1]
        self._now = early

    def redo(self):
        """Makes the command again that was taken back last."""
        if self._undone == []:
            raise NothingToRedo()
        command, late = self._undone[-1]
        self._done = self._done + [(command, self._now)]
        self._undone = self._undone[:-1]
        self._now = late

    def record(self):
        """The list of the commands that are not taken back, the eldest first."""
        return [copied(command) for command, _ in self._done]

    def _check_spot(self, spot):
        if not is_whole(spot) or spot not in self._now[0]:
            raise InvalidSpot(spot)

    def _at(self, spot):
        self._check_spot(spot)
        return self._now[0][spot]

    def _without(self, spot):
        there, _ = self._now
        return {other: there[other] for other in there if other != spot}

    def _set(self, command, spot, row, aim):
        there, given = self._now
        self._change(command, {**there, spot: (row, aim)}, given)

    def _change(self, command, there, given):
        self._done = self._done + [(command, self._now)]
        self._undone = []
        self._now = (there, given)

    def _deeds_to_greatest(self, spot):
        row = self.row_there(spot)
        return fewest_deeds(self._house, row, greatest_row(self._house, row))


def copied(value):
    """A value with lists of its own, so that callers may change them."""
    if isinstance(value, list):
        return [copied(part) for part in value]
    return tuple([copied(part) for part in value]) if isinstance(value, tuple) else value


def check_yard(yard):
    """Raises InvalidYard unless this is a yard."""
    if not isinstance(yard, Yard):
        raise InvalidYard(yard)


def is_command(value):
    """Whether any object is a tuple of the word of a command and as many things as it takes, whatever they are."""
    if not isinstance(value, tuple) or len(value) == 0 or not isinstance(value[0], str):
        return False
    return value[0] in THINGS and len(value) == 1 + THINGS[value[0]]


def carry_out(yard, command):
    """What the method of the yard that has the name of a command returns."""
    word, first = command[0], command[1]
    if word == "put":
        return yard.put(first)
    if word == "take":
        return yard.take(first)
    if word == "make":
        return yard.make(first, command[2])
    if word == "go":
        return yard.go(first, command[2])
    if word == "lower":
        return yard.lower(first)
    if word == "lift":
        return yard.lift(first)
    if word == "come":
        return yard.come(first, command[2], command[3])
    if word == "aim":
        return yard.aim(first, command[2])
    if word == "let_go":
        return yard.let_go(first)
    return yard.pour(first, command[2])


def replayed(yard, record):
    """A copy of the yard on which the commands of a record are then made, one after the other."""
    check_yard(yard)
    if not isinstance(record, list) or not all([is_command(command) for command in record]):
        raise InvalidRecord(record)
    late = yard.copy()
    for command in record:
        carry_out(late, command)
    return late

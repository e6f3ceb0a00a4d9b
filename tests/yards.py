"""A yard of the tests' own, held by the list of its commands, and commands drawn for it."""

from carryways.errors import (
    CarryError, InvalidDeed, InvalidNumber, InvalidPlace, InvalidRow, InvalidSpot, NothingToRedo, NothingToUndo,
    Refused,
)
from tests.plain import by_hand, let_by_hand, ways_from

WAYS = {}


def ways(house, row):
    """All rows joined with a row, with the fewest deeds and the carries; each asked for once."""
    key = (tuple(house.bases()), tuple(house.rooms()), tuple(row))
    if key not in WAYS:
        WAYS[key] = ways_from(house, list(row))
    return WAYS[key]


def least_and_greatest(house, row):
    """The rows of a class with the least and the greatest carries."""
    told = ways(house, row)
    order = sorted(told, key=lambda late: sum(told[late][2]))
    return list(order[0]), list(order[-1])


class Wrong(Exception):
    """The error that a command raises, with its very object."""

    def __init__(self, error, *value):
        super().__init__(error, *value)
        self.error = error
        self.value = list(value)


def is_whole(value):
    return type(value) is int


class PlainYard:
    """The commands that were done and those that were taken back; what is there comes from doing them all again."""

    def __init__(self, house):
        self.house = house
        self.commands = []
        self.back = []

    def there(self):
        """What stands at the spots, as a dictionary to lists of row and aim, and how many spots there ever were."""
        spots, given = {}, 0
        for command in self.commands:
            given = self.change(spots, given, command)
        return spots, given

    def change(self, spots, given, command):
        word, *things = command
        if word == "put":
            spots[given] = [list(things[0]), None]
            return given + 1
        spot = things[0]
        row = spots[spot][0]
        if word == "take":
            del spots[spot]
        elif word == "make":
            spots[spot][0] = by_hand(self.house, row, things[1])
        elif word == "go":
            spots[spot][0] = list(things[1])
        elif word == "lower":
            spots[spot][0] = least_and_greatest(self.house, row)[0]
        elif word == "lift":
            spots[spot][0] = least_and_greatest(self.house, row)[1]
        elif word == "come":
            row[things[1]] += things[2]
        elif word == "aim":
            spots[spot][1] = list(things[1])
        elif word == "let_go":
            spots[spot][1] = None
        else:
            spots[spot][0] = [count + more for count, more in zip(row, spots.pop(things[1])[0])]
        return given

    def is_row(self, value):
        rooms = self.house.rooms()
        if type(value) is not list or len(value) != len(rooms):
            return False
        return all(is_whole(count) and 0 <= count <= room for count, room in zip(value, rooms))

    def check_spot(self, spots, spot):
        if not is_whole(spot) or spot not in spots:
            raise Wrong(InvalidSpot, spot)

    def check_row(self, row):
        if not self.is_row(row):
            raise Wrong(InvalidRow, row)

    def check(self, word, things):
        """Raises the error that a command raises as it stands."""
        spots, _ = self.there()
        if word == "put":
            return self.check_row(things[0])
        spot = things[0]
        self.check_spot(spots, spot)
        row, aim = spots[spot]
        if word == "make":
            return self.check_make(row, things[1])
        if word in ("go", "aim"):
            return self.check_other(word, row, things[1])
        if word in ("lower", "lift"):
            if row == least_and_greatest(self.house, row)[word == "lift"]:
                raise Wrong(Refused, spot)
        if word == "come":
            return self.check_come(spot, row, aim, things[1], things[2])
        if word == "let_go" and aim is None:
            raise Wrong(Refused, spot)
        if word == "pour":
            return self.check_pour(spots, spot, things[1])
        return None

    def check_make(self, row, deed):
        places = len(self.house.rooms()) - 1
        if type(deed) is not tuple or len(deed) != 2 or deed[0] not in ("up", "down"):
            raise Wrong(InvalidDeed, deed)
        if not is_whole(deed[1]) or not 0 <= deed[1] < places:
            raise Wrong(InvalidDeed, deed)
        if deed not in let_by_hand(self.house, row):
            raise Wrong(Refused, deed)

    def check_other(self, word, row, other):
        self.check_row(other)
        if tuple(other) not in ways(self.house, row) or (word == "go" and row == other):
            raise Wrong(Refused, other)

    def check_come(self, spot, row, aim, place, number):
        if not is_whole(place) or not 0 <= place < len(row):
            raise Wrong(InvalidPlace, place)
        if not is_whole(number) or number == 0:
            raise Wrong(InvalidNumber, number)
        if not 0 <= row[place] + number <= self.house.rooms()[place]:
            raise Wrong(Refused, number)
        if aim is not None:
            raise Wrong(Refused, spot)

    def check_pour(self, spots, one, other):
        self.check_spot(spots, other)
        if one == other:
            raise Wrong(InvalidSpot, other)
        for spot in (one, other):
            if spots[spot][1] is not None:
                raise Wrong(Refused, spot)
        if not self.is_row([count + more for count, more in zip(spots[one][0], spots[other][0])]):
            raise Wrong(Refused, other)

    def do(self, word, *things):
        """Makes a command, an undo or a redo, and tells what it returns."""
        if word == "undo":
            if not self.commands:
                raise Wrong(NothingToUndo)
            self.back.append(self.commands.pop())
            return None
        if word == "redo":
            if not self.back:
                raise Wrong(NothingToRedo)
            self.commands.append(self.back.pop())
            return None
        self.check(word, things)
        spots, given = self.there()
        self.commands.append((word, *[list(thing) if type(thing) is list else thing for thing in things]))
        self.back = []
        if word == "put":
            return given
        return ways(self.house, spots[things[0]][0])[tuple(things[1])][0] if word == "go" else None

    def kept(self):
        """What has to be put back when a block is left."""
        return list(self.commands), list(self.back)

    def put_back(self, kept):
        self.commands, self.back = list(kept[0]), list(kept[1])

    def ask(self, word, *things):
        """Tells what a question is answered."""
        spots, _ = self.there()
        if word == "farthest_spots":
            deeds = {spot: ways(self.house, row)[tuple(least_and_greatest(self.house, row)[1])][0]
                     for spot, (row, _) in spots.items()}
            return [spot for spot in sorted(spots) if deeds[spot] == max(deeds.values())]
        self.check_spot(spots, things[0])
        row, aim = spots[things[0]]
        if word == "row_there":
            return row
        if word == "aim_there":
            return aim
        if word == "deeds_there":
            return sorted(let_by_hand(self.house, row))
        if word == "is_met":
            return aim is None or row == aim
        others = [spot for spot in sorted(spots) if spot != things[0]]
        return [spot for spot in others if tuple(spots[spot][0]) in ways(self.house, row)]


def check_same(test, yard, plain):
    """Whatever the methods of a yard tell is what the plain yard tells."""
    spots, _ = plain.there()
    test.assertEqual(yard.house(), plain.house)
    test.assertEqual(yard.spots(), sorted(spots))
    test.assertEqual(yard.record(), plain.commands)
    test.assertEqual(yard.farthest_spots(), plain.ask("farthest_spots"))
    for spot in spots:
        for word in ("row_there", "aim_there", "deeds_there", "is_met", "alike_spots"):
            test.assertEqual(getattr(yard, word)(spot), plain.ask(word, spot))
        check_way(test, yard, plain, spot)


def check_way(test, yard, plain, spot):
    row, aim = plain.there()[0][spot]
    way = yard.way(spot)
    test.assertIs(yard.is_way(spot, way), True)
    for deed in way:
        row = by_hand(plain.house, row, deed)
    test.assertEqual(len(way), 0 if aim is None else ways(plain.house, plain.there()[0][spot][0])[tuple(aim)][0])
    if aim is not None:
        test.assertEqual(row, aim)


def do_both(test, yard, plain, command):
    """The yard does what the plain one does: it returns the same, or raises the very error."""
    word, *things = command
    try:
        wanted = plain.do(word, *things)
    except Wrong as wrong:
        with test.assertRaises(CarryError) as caught:
            getattr(yard, word)(*things)
        test.assertEqual(type(caught.exception).__name__, wrong.error.__name__)
        if wrong.value:
            test.assertIs(caught.exception.value, wrong.value[0])
        return
    told = getattr(yard, word)(*things)
    test.assertEqual(told, wanted)
    test.assertIs(type(told), type(wanted))


def drawn(chance, plain):
    """A command at random: mostly one that can be done, at times a wrong one, an undo or a redo."""
    spots, given = plain.there()
    spot = chance.choice(sorted(spots)) if spots and chance.random() < 0.93 else chance.choice((given, -1, None, True))
    row = [chance.randint(0, room) for room in plain.house.rooms()]
    other = chance.choice(sorted(spots)) if spots else 0
    place = chance.randrange(len(row))
    alike = list(chance.choice(sorted(ways(plain.house, spots[spot][0])))) if spots and spot in spots else row
    deeds = sorted(let_by_hand(plain.house, spots[spot][0])) if spots and spot in spots else []
    some = [
        ("put", row), ("take", spot), ("make", spot, ("up", place)), ("go", spot, alike), ("lower", spot),
        ("lift", spot),
        ("come", spot, place, chance.choice((-2, -1, 1, 2))), ("aim", spot, alike), ("let_go", spot),
        ("pour", spot, other), ("undo",), ("redo",), ("go", spot, row), ("aim", spot, row),
        ("make", spot, chance.choice(deeds) if deeds else ("down", 0)), ("go", spot, alike), ("aim", spot, alike),
        ("undo",), ("redo",), ("come", spot, place, 0), ("come", spot, 9, 1), ("put", row + [0]), ("make", spot, "up"),
        ("make", spot, chance.choice(deeds) if deeds else ("down", 0)),
    ]
    if len(spots) < 3:
        some += [("put", row)] * 4
    elif len(spots) >= 4:
        some = [command for command in some if command[0] != "put"] + [("take", spot), ("pour", spot, other)] * 2
    return chance.choice(some)

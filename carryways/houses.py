"""Houses: boxes one behind the other, their rooms, and the bases that lead from one to the next."""

from carryways.checks import are_bases, are_counts, are_counts_within, is_base, is_count, is_count_below
from carryways.errors import InvalidBases, InvalidHouse, InvalidNumber, InvalidPlace, InvalidRooms, InvalidRow, Unlike


class House:
    """A house: a list of bases, and a list of rooms, one more than bases."""

    def __init__(self, bases, rooms):
        if not are_bases(bases):
            raise InvalidBases(bases)
        if not are_counts(rooms, len(bases) + 1):
            raise InvalidRooms(rooms)
        # Copies: a house stays as it is when the caller changes the lists.
        self._bases = tuple(bases)
        self._rooms = tuple(rooms)

    def bases(self):
        """The list of the bases."""
        return list(self._bases)

    def rooms(self):
        """The list of the rooms."""
        return list(self._rooms)

    def places(self):
        """How many rooms there are."""
        return len(self._rooms)

    def __eq__(self, other):
        return isinstance(other, House) and self._bases == other._bases and self._rooms == other._rooms


def check_house(house):
    """Raises InvalidHouse unless this is a house."""
    if not isinstance(house, House):
        raise InvalidHouse(house)


def check_row(house, row):
    """Raises InvalidRow unless this is a row of the house."""
    if not are_counts_within(row, house.rooms()):
        raise InvalidRow(row)


def check_place(house, place):
    """Raises InvalidPlace unless this is a place of the house."""
    if not is_count_below(place, house.places()):
        raise InvalidPlace(place)


def check_like_houses(one, other):
    """Raises InvalidHouse, one by one, then Unlike unless both have the same bases."""
    check_house(one)
    check_house(other)
    if one.bases() != other.bases():
        raise Unlike(other)


def weights(house):
    """The list of what one thing is worth, place by place."""
    check_house(house)
    found = [1]
    for base in house.bases():
        found.append(found[-1] * base)
    return found


def held_up_to(house):
    """The list of what the rooms of each place and of all below it hold together, weighed."""
    check_house(house)
    held = 0
    found = []
    for room, weight in zip(house.rooms(), weights(house)):
        held += room * weight
        found.append(held)
    return found


def whole_worth(house):
    """What all rooms hold together, weighed."""
    return held_up_to(house)[-1]


def many_rows(house):
    """How many rows the house has."""
    check_house(house)
    many = 1
    for room in house.rooms():
        many = many * (room + 1)
    return many


def row_at(house, number):
    """The row at a position of the ascending list of all rows."""
    if not is_count_below(number, many_rows(house)):
        raise InvalidNumber(number)
    row = []
    left = number
    # The last place changes fastest in the ascending list, so its count is split off first.
    for room in reversed(house.rooms()):
        left, count = divmod(left, room + 1)
        row.append(count)
    return row[::-1]


def number_of(house, row):
    """The position of a row in the ascending list of all rows."""
    check_house(house)
    check_row(house, row)
    number = 0
    for count, room in zip(row, house.rooms()):
        number = number * (room + 1) + count
    return number


def is_within(one, other):
    """Whether both have the same bases, and no room of the one is above that of the other."""
    check_house(one)
    check_house(other)
    return one.bases() == other.bases() and are_counts_within(one.rooms(), other.rooms())


def lesser_house(one, other):
    """The house with the lesser one of both rooms at each place."""
    check_like_houses(one, other)
    return House(one.bases(), [min(first, second) for first, second in zip(one.rooms(), other.rooms())])


def greater_house(one, other):
    """The house with the greater one of both rooms at each place."""
    check_like_houses(one, other)
    return House(one.bases(), [max(first, second) for first, second in zip(one.rooms(), other.rooms())])


def with_room(house, place, room):
    """The house with another room at a place."""
    check_house(house)
    check_place(house, place)
    if not is_count(room):
        raise InvalidNumber(room)
    rooms = house.rooms()
    rooms[place] = room
    return House(house.bases(), rooms)


def stretch(house, first, last):
    """The house of the places from the first to the last one, both in it."""
    check_house(house)
    check_place(house, first)
    check_place(house, last)
    if last < first:
        raise InvalidPlace(last)
    return House(house.bases()[first:last], house.rooms()[first:last + 1])


def set_behind(one, base, other):
    """The house of the places of the one and then those of the other, with a base between."""
    check_house(one)
    if not is_base(base):
        raise InvalidBases(base)
    check_house(other)
    return House(one.bases() + [base] + other.bases(), one.rooms() + other.rooms())


def tightened(house, place):
    """The house in which a place has less room than its base."""
    check_house(house)
    # The last place has no base.
    if not is_count_below(place, house.places() - 1):
        raise InvalidPlace(place)
    return with_room(house, place, min(house.rooms()[place], house.bases()[place] - 1))

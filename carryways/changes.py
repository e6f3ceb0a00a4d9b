"""Houses changed: wider ones, split, longer and shorter ones, and what becomes of their classes."""

from carryways.checks import is_base, is_count, is_count_below, is_tuple_of
from carryways.classes import joined, part_worths, parts, stiff_places
from carryways.counts import rows_of_class
from carryways.ends import turned
from carryways.errors import (
    Apart, InvalidBases, InvalidChange, InvalidNumber, InvalidPlace, InvalidRooms, Refused, Unlike,
)
from carryways.holding import worth_decides
from carryways.houses import House, check_house, check_row, is_within, stretch, with_room
from carryways.rows import check_house_and_row, check_two_rows, is_row, weighed


def with_rooms(house, rooms):
    """The house with other rooms."""
    check_house(house)
    return House(house.bases(), rooms)


def are_places_below_last(house, value):
    """Whether any object is an ascending list of places of the house but the last."""
    if not isinstance(value, list) or not all([is_count_below(place, house.places() - 1) for place in value]):
        return False
    return all([early < late for early, late in zip(value, value[1:])])


def freed(house, places):
    """The house in which each of some places has at least as much room as its base."""
    check_house(house)
    if not are_places_below_last(house, places):
        raise InvalidPlace(places)
    rooms = house.rooms()
    for place in places:
        rooms[place] = max(rooms[place], house.bases()[place])
    return House(house.bases(), rooms)


def must_free(house, one, other):
    """The ascending list of the stiff places that keep both rows apart, None if no freeing joins them."""
    check_two_rows(house, one, other)
    if weighed(house, one) != weighed(house, other):
        return None
    # Across a place that is left stiff nothing goes, so both rows are worth the same up to there.
    return [at for at in stiff_places(house) if weighed(house, one[:at + 1]) != weighed(house, other[:at + 1])]


def widening(house, one, other):
    """The house freed of the places that keep both rows apart, None if no freeing joins them."""
    places = must_free(house, one, other)
    return freed(house, places) if places is not None else None


def check_wider(house, late):
    """Raises InvalidHouse, one by one, then Unlike, unless the late house is wider than the house."""
    if not is_within(house, late):
        raise Unlike(late)


def parts_within(house, late):
    """The list, for each part of a wider house, of the list of the parts of the house that it is made of."""
    check_wider(house, late)
    found = []
    for first, last in parts(late):
        found.append([part for part in parts(house) if first <= part[0] <= last])
    return found


def classes_within(house, late, row):
    """The ascending list of the coarse rows of the classes that come together in the row's class in a wider house."""
    check_wider(house, late)
    check_row(house, row)
    found = {}
    for joined_row in rows_of_class(late, row):
        if is_row(house, joined_row):
            found[tuple(part_worths(house, joined_row))] = True
    return [list(worths) for worths in sorted(found)]


def are_joined_still(house, late):
    """Whether no two classes of the house come together in a wider house."""
    check_wider(house, late)
    return all([worth_decides(stretch(house, first, last)) for first, last in parts(late)])


def check_place_below_last(house, place):
    """Raises InvalidPlace unless this is a place of the house but the last."""
    if not is_count_below(place, house.places() - 1):
        raise InvalidPlace(place)


def check_split(house, place, first, second, room):
    """Raises the first error of a split of the house."""
    check_house(house)
    check_place_below_last(house, place)
    if not is_base(first):
        raise InvalidBases(first)
    if not is_base(second) or first * second != house.bases()[place]:
        raise InvalidBases(second)
    if not is_count(room):
        raise InvalidRooms(room)


def split(house, place, first, second, room):
    """The house in which a place has a new one behind it, and its base is split in two."""
    check_split(house, place, first, second, room)
    bases, rooms = house.bases(), house.rooms()
    bases[place:place + 1] = [first, second]
    return House(bases, rooms[:place + 1] + [room] + rooms[place + 1:])


def with_nothing_behind(row, place):
    """The row with a new place behind a place, and nothing in it."""
    return row[:place + 1] + [0] + row[place + 1:]


def split_row(house, place, row):
    """The row of the house as one of the house split behind a place."""
    check_house(house)
    check_place_below_last(house, place)
    check_row(house, row)
    return with_nothing_behind(row, place)


def is_kept_apart(house, place, first, second, room, one, other):
    """Whether two joined rows of the house are joined no more when a place is split."""
    late = split(house, place, first, second, room)
    if not joined(house, one, other):
        raise Apart(other)
    return not joined(late, with_nothing_behind(one, place), with_nothing_behind(other, place))


def upside_down(house, row):
    """The row with the rooms less what it holds."""
    check_house_and_row(house, row)
    return turned(house, row)


def longer(house, base, room):
    """The house with one place more behind the last one."""
    check_house(house)
    if not is_base(base):
        raise InvalidBases(base)
    if not is_count(room):
        raise InvalidRooms(room)
    return House(house.bases() + [base], house.rooms() + [room])


def shorter(house, many):
    """The house of the first so many places."""
    check_house(house)
    if not is_count_below(many, house.places() + 1) or many == 0:
        raise InvalidNumber(many)
    return stretch(house, 0, many - 1)


def longer_row(house, row, number):
    """The row with one more number behind."""
    check_house_and_row(house, row)
    if not is_count(number):
        raise InvalidNumber(number)
    return row + [number]


def is_change(value):
    """Whether any object is a change by its form, whatever the house."""
    if not isinstance(value, tuple) or len(value) == 0:
        return False
    word, things = value[0], value[1:]
    if word == "room":
        return is_tuple_of(things, 2) and all([is_count(thing) for thing in things])
    if word == "split":
        return is_tuple_of(things, 4) and is_split_by_form(things)
    if word == "longer":
        return is_tuple_of(things, 2) and is_base(things[0]) and is_count(things[1])
    return word == "shorter" and is_tuple_of(things, 1) and is_count(things[0]) and things[0] > 0


def is_split_by_form(things):
    """Whether four objects are the place, the bases and the room of a split by their form."""
    place, first, second, room = things
    return is_count(place) and is_base(first) and is_base(second) and is_count(room)


def fits(house, change):
    """Whether a change by its form fits the house."""
    word, first = change[0], change[1]
    if word == "room":
        return first < house.places()
    if word == "split":
        return first < house.places() - 1 and change[2] * change[3] == house.bases()[first]
    return word == "longer" or first <= house.places()


def changed(house, change):
    """The house behind a change that fits it."""
    word, things = change[0], change[1:]
    if word == "room":
        return with_room(house, *things)
    if word == "split":
        return split(house, *things)
    if word == "longer":
        return longer(house, *things)
    return shorter(house, *things)


def houses_then(house, changes):
    """The list of the house and of those behind each of some changes."""
    check_house(house)
    if not isinstance(changes, list) or not all([is_change(change) for change in changes]):
        raise InvalidChange(changes)
    found = [house]
    for change in changes:
        if not fits(found[-1], change):
            raise Refused(change)
        found.append(changed(found[-1], change))
    return found


def changed_by(house, changes):
    """The house behind a list of changes, one behind the other."""
    return houses_then(house, changes)[-1]


def parts_then(house, changes):
    """The list of how many parts the house has ahead of the first change and behind each one."""
    return [len(parts(late)) for late in houses_then(house, changes)]

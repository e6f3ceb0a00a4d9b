"""Wishes: at least and at most so many things at each place, and the one place that bars them from a class."""

from carryways.carrying import best_carries, links_of, whole_limits
from carryways.checks import is_count, is_tuple_of
from carryways.classes import (
    carries_between, counts_carried, filled_by_parts, house_of_parts, is_in_class, joined, part_worths, parts,
)
from carryways.counting import many_rows_of_worth
from carryways.ends import dead_places, deeds_of_carries, turned
from carryways.errors import InvalidWish, Refused
from carryways.houses import House, check_house, check_place, stretch
from carryways.rows import check_house_and_row, check_two_rows


def is_range_within(value, room):
    """Whether any object is a tuple of a low and a high count, low at most high, high at most a room."""
    if not is_tuple_of(value, 2):
        return False
    low, high = value
    return is_count(low) and is_count(high) and low <= high <= room


def is_wish(house, value):
    """Whether any object is a wish of the house."""
    check_house(house)
    if not isinstance(value, list) or len(value) != house.places():
        return False
    return all([is_range_within(limits, room) for limits, room in zip(value, house.rooms())])


def check_wish(house, wish):
    """Raises InvalidWish unless this is a wish of the house."""
    if not is_wish(house, wish):
        raise InvalidWish(wish)


def check_all(house, row, wish):
    """Raises InvalidHouse, InvalidRow, then InvalidWish, unless these are a house, a row and a wish of it."""
    check_house_and_row(house, row)
    check_wish(house, wish)


def is_row_within(row, wish):
    """Whether a row holds at each place from low to high things."""
    return all([low <= count <= high for count, (low, high) in zip(row, wish)])


def meets(house, row, wish):
    """Whether the row meets a wish."""
    check_all(house, row, wish)
    return is_row_within(row, wish)


def bars_in_part(bases, worth, wish):
    """The ascending list of the places of a part, counted from its first one, that bar a wish at a part worth."""
    found = []
    low_held, high_held, weight = 0, 0, 1
    for place, (low, high) in enumerate(wish):
        low_held += low * weight
        high_held += high * weight
        if place < len(bases):
            weight = weight * bases[place]
            barred = (worth - low_held) % weight > high_held - low_held
        else:
            barred = not low_held <= worth <= high_held
        if barred:
            found.append(place)
    return found


def bars_against(house, worths, wish):
    """The ascending list of the places that bar a wish from the class of some part worths."""
    found = []
    for (first, last), worth in zip(parts(house), worths):
        bars = bars_in_part(house.bases()[first:last], worth, wish[first:last + 1])
        found.extend([first + place for place in bars])
    return found


def is_met(house, row, wish):
    """Whether some row of the class meets a wish."""
    return barring_places(house, row, wish) == []


def barring_places(house, row, wish):
    """The ascending list of the places that bar a wish."""
    check_all(house, row, wish)
    return bars_against(house, part_worths(house, row), wish)


def barring_place(house, row, wish):
    """A place that bars a wish, None if there is none."""
    bars = barring_places(house, row, wish)
    return bars[0] if bars != [] else None


def lows_of(wish):
    """The list of the lows of a wish."""
    return [low for low, _ in wish]


def highs_of(wish):
    """The list of the highs of a wish."""
    return [high for _, high in wish]


def added(counts, others):
    """Counts and other ones together, place by place."""
    return [count + other for count, other in zip(counts, others)]


def less(counts, others):
    """Counts less other ones, place by place."""
    return [count - other for count, other in zip(counts, others)]


def house_within(house, wish):
    """The house with the same bases that has as rooms the highs of a wish minus the lows."""
    return House(house.bases(), less(highs_of(wish), lows_of(wish)))


def greatest_within(house, row, wish):
    """The row of the class that meets a wish and has the greatest carries; a place must not bar it."""
    room_left = house_within(house, wish)
    houses = [stretch(room_left, first, last) for first, last in parts(house)]
    return added(lows_of(wish), filled_by_parts(houses, worths_above(house, row, wish)))


def worths_above(house, row, wish):
    """The list, part by part, of what the part holds more than the lows of a wish."""
    return less(part_worths(house, row), part_worths(house, lows_of(wish)))


def ends_within(house, row, wish):
    """The tuple of the rows with the least and the greatest carries that meet a wish; no place must bar it."""
    # In the row turned round, up is down, and lows are highs.
    turned_wish = list(zip(turned(house, highs_of(wish)), turned(house, lows_of(wish))))
    least = turned(house, greatest_within(house, turned(house, row), turned_wish))
    return (least, greatest_within(house, row, wish))


def meeting_row(house, row, wish):
    """A row of the class that meets a wish, None if there is none."""
    ends = meeting_ends(house, row, wish)
    return ends[1] if ends is not None else None


def is_meeting_row(house, row, wish, value):
    """Whether any object is a row of the class that meets a wish."""
    check_all(house, row, wish)
    return is_in_class(house, row, value) and is_row_within(value, wish)


def meeting_ends(house, row, wish):
    """The tuple of the rows with the least and the greatest carries that meet a wish, None if none does."""
    return ends_within(house, row, wish) if is_met(house, row, wish) else None


def wish_house(house, wish):
    """The house of a wish: the same bases, and as rooms the highs minus the lows."""
    check_house(house)
    check_wish(house, wish)
    return house_within(house, wish)


def same_lot(house, one, other, wish):
    """Whether a chain all of whose rows meet a wish leads from the one row to the other."""
    check_two_rows(house, one, other)
    check_wish(house, wish)
    for row in (one, other):
        if not is_row_within(row, wish):
            raise Refused(row)
    lows = lows_of(wish)
    return joined(house_within(house, wish), less(one, lows), less(other, lows))


def many_lots(house, row, wish):
    """How many lots the rows of the class that meet a wish lie in."""
    check_all(house, row, wish)
    room_left = house_within(house, wish)
    many = 1
    # The classes in the house of the wish are rows of its house of parts, and each part of the house keeps its worth.
    for (first, last), worth in zip(parts(house), worths_above(house, row, wish)):
        many = many * many_rows_of_worth(house_of_parts(stretch(room_left, first, last)), worth)
    return many


def with_count(wish, place, count):
    """A wish with just so many things at a place."""
    return wish[:place] + [(count, count)] + wish[place + 1:]


def counts_within(house, worths, wish, place):
    """The ascending list of the counts at a place of rows of some part worths that meet a wish."""
    low, high = wish[place]
    counts = list(range(low, high + 1))
    return [count for count in counts if bars_against(house, worths, with_count(wish, place, count)) == []]


def held_at(house, row, place):
    """The ascending list of the numbers of things that rows of the class hold at a place."""
    check_house_and_row(house, row)
    check_place(house, place)
    return counts_within(house, part_worths(house, row), whole_limits(house), place)


def rigid_places(house, row):
    """The ascending list of the places at which all rows of the class hold the same number of things."""
    dead = dead_places(house, row) + [house.places() - 1]
    return [place for place in dead if place == 0 or place - 1 in dead]


def pairs_at(house, row, place, late):
    """The ascending list of the tuples of the numbers of things that a row of the class holds at two places."""
    check_house_and_row(house, row)
    check_place(house, place)
    check_place(house, late)
    worths = part_worths(house, row)
    pairs = []
    for count in counts_within(house, worths, whole_limits(house), place):
        wish = with_count(whole_limits(house), place, count)
        pairs.extend([(count, other) for other in counts_within(house, worths, wish, late)])
    return pairs


def carries_to_nearest(house, row, wish):
    """The carries to the nearest row of the class that meets a wish, None if none does."""
    ends = meeting_ends(house, row, wish)
    if ends is None:
        return None
    least, greatest = ends
    spans = list(zip(carries_between(house, row, least), carries_between(house, row, greatest)))
    return best_carries(links_of(house, row, wish, spans), -1)


def deeds_to(house, row, wish):
    """The fewest deeds with which the row becomes one that meets a wish, None if none does."""
    outs = carries_to_nearest(house, row, wish)
    return deeds_of_carries(outs) if outs is not None else None


def nearest(house, row, wish):
    """A row of the class that meets a wish and to which the fewest deeds lead, None if none meets it."""
    outs = carries_to_nearest(house, row, wish)
    return counts_carried(house, row, outs) if outs is not None else None


def is_nearest(house, row, wish, value):
    """Whether any object is a row of the class that meets a wish and to which the fewest deeds lead."""
    fewest = deeds_to(house, row, wish)
    if not is_meeting_row(house, row, wish, value):
        return False
    return deeds_of_carries(carries_between(house, row, value)) == fewest

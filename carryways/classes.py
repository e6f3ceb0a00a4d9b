"""Parts of a house, and the classes of rows that are joined by chains."""

from carryways.checks import are_counts, are_counts_within, are_whole, is_count, is_just
from carryways.errors import Apart, InvalidCarries, InvalidNumber, InvalidWorths
from carryways.houses import House, check_house, stretch, weights, whole_worth
from carryways.rows import check_house_and_row, check_two_rows, is_row, weighed


def stiff_places(house):
    """The ascending list of the places but the last that have less room than their base."""
    check_house(house)
    return [place for place, (base, room) in enumerate(zip(house.bases(), house.rooms())) if room < base]


def parts(house):
    """The ascending list of the tuples (first, last) of places into which the stiff places cut the house."""
    lasts = stiff_places(house) + [house.places() - 1]
    firsts = [0] + [last + 1 for last in lasts[:-1]]
    return list(zip(firsts, lasts))


def houses_of_parts(house):
    """The list, part by part, of the house of the places of the part alone."""
    return [stretch(house, first, last) for first, last in parts(house)]


def part_worths(house, row):
    """The list, part by part, of what the part holds, weighed from its own first place."""
    check_house_and_row(house, row)
    return [weighed(stretch(house, first, last), row[first:last + 1]) for first, last in parts(house)]


def joined(house, one, other):
    """Whether a chain leads from the one row to the other."""
    check_two_rows(house, one, other)
    return part_worths(house, one) == part_worths(house, other)


def check_joined(house, one, other):
    """Raises InvalidHouse, InvalidRow, one by one, then Apart, unless these are two rows of one class."""
    if not joined(house, one, other):
        raise Apart(other)


def is_in_class(house, row, value):
    """Whether any object is a row of the class of the row."""
    return is_row(house, value) and joined(house, row, value)


def all_whys_apart(house, one, other):
    """The list of the tuples (part, worth, worth) of the parts in which both rows hold unlike numbers."""
    check_two_rows(house, one, other)
    ones, others = part_worths(house, one), part_worths(house, other)
    return [(part, first, second) for part, first, second in zip(parts(house), ones, others) if first != second]


def why_apart(house, one, other):
    """A tuple (part, worth, worth) of a part in which both rows hold unlike numbers, None if they are joined."""
    whys = all_whys_apart(house, one, other)
    return whys[0] if whys != [] else None


def is_why_apart(house, one, other, value):
    """Whether any object is a tuple (part, worth, worth) of a part in which both rows hold unlike numbers."""
    return any([is_just(value, why) for why in all_whys_apart(house, one, other)])


def carries_between(house, one, other):
    """The list, for each place but the last, of what goes out of it on the way from the one counts to the other."""
    found = []
    into = 0
    for base, first, second in zip(house.bases(), one, other):
        into = (first + into - second) // base
        found.append(into)
    return found


def carries(house, one, other):
    """The carries from the one row to the other of its class."""
    check_joined(house, one, other)
    return carries_between(house, one, other)


def counts_carried(house, row, outs):
    """The counts to which carries lead from a row, also if they are no row."""
    bases = house.bases() + [0]
    return [count + into - base * out for count, into, base, out in zip(row, [0] + outs, bases, outs + [0])]


def carried(house, row, carries):
    """The row to which carries lead from the row by the formula alone, None if what comes is no row."""
    check_house_and_row(house, row)
    if not are_whole(carries, house.places() - 1):
        raise InvalidCarries(carries)
    counts = counts_carried(house, row, carries)
    return counts if are_counts_within(counts, house.rooms()) else None


def house_of_parts(house):
    """The house that has a place for each part, with room for what the part's rooms hold together."""
    firsts = [weights(house)[first] for first, _ in parts(house)]
    bases = [late // early for early, late in zip(firsts, firsts[1:])]
    return House(bases, [whole_worth(part) for part in houses_of_parts(house)])


def coarse_row(house, row):
    """The part worths of a row as a row of the house of parts."""
    return part_worths(house, row)


def row_of_class(house, worths):
    """A row with some part worths, None if there is none: the one with the fewest things."""
    check_house(house)
    if not are_counts(worths, len(parts(house))):
        raise InvalidWorths(worths)
    return filled_by_parts(houses_of_parts(house), worths)


def filled_by_parts(houses, worths):
    """The counts, house by house, that come greatest first for each worth, None if one does not come out."""
    found = []
    for house, worth in zip(houses, worths):
        counts = greatest_first(house, worth)
        if counts is None:
            return None
        found.extend(counts)
    return found


def filled_up_to(house, worth):
    """The row that comes if each place, from the last one down, takes as many things as it can within a worth."""
    row = []
    left = worth
    for weight, room in zip(weights(house)[::-1], house.rooms()[::-1]):
        count = min(room, left // weight)
        row.append(count)
        left = left - count * weight
    return row[::-1]


def greatest_first(house, worth):
    """The row that has a worth, with the fewest things of all these, None if there is none."""
    check_house(house)
    if not is_count(worth):
        raise InvalidNumber(worth)
    row = filled_up_to(house, worth)
    return row if weighed(house, row) == worth else None


def lesser_of(house, one, other):
    """The row to which the lesser carries of both rows lead, place by place, counted from the one."""
    return counts_carried(house, one, [min(0, out) for out in carries(house, one, other)])


def greater_of(house, one, other):
    """The row to which the greater carries of both rows lead, place by place, counted from the one."""
    return counts_carried(house, one, [max(0, out) for out in carries(house, one, other)])


def closest_parts(house, one, other):
    """The list, part by part, of what the other row holds there less what the one does."""
    check_two_rows(house, one, other)
    return [late - early for early, late in zip(part_worths(house, one), part_worths(house, other))]

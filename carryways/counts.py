"""How many classes and rows there are, and which of them stands where."""

from carryways.carrying import all_carries, links_of, many_ways, ways_on, whole_limits
from carryways.checks import is_count_below, is_whole
from carryways.classes import (
    coarse_row, counts_carried, house_of_parts, houses_of_parts, is_in_class, row_of_class,
)
from carryways.counting import carries_by_loss, layers_of_losses, many_of_each_worth, many_rows_of_worth
from carryways.ends import carry_ranges, least_row, thing_range
from carryways.errors import InvalidNumber
from carryways.houses import check_house, many_rows, number_of, row_at
from carryways.rows import check_house_and_row, is_row


def many_classes(house):
    """How many classes the house has."""
    return many_rows(house_of_parts(house))


def class_place(house, row):
    """The position of the class of the row among all classes."""
    worths = coarse_row(house, row)
    return number_of(house_of_parts(house), worths)


def class_at(house, number):
    """A row of the class at a position."""
    return row_of_class(house, row_at(house_of_parts(house), number))


def links_of_class(house, row):
    """The links of all carries from the row to rows of its class."""
    check_house_and_row(house, row)
    return links_of(house, row, whole_limits(house), carry_ranges(house, row))


def rows_of_class(house, row):
    """The ascending list of the rows of the class, for small classes."""
    # The more goes out of the first places, the less they hold.
    return [counts_carried(house, row, outs) for outs in all_carries(links_of_class(house, row))]


def class_size(house, row):
    """How many rows the class has."""
    return many_ways(links_of_class(house, row))


def place_in_class(house, row):
    """The position of the row among the ascending rows of its class."""
    links = links_of_class(house, row)
    ways = ways_on(links)
    number = 0
    # A row that stands ahead is the same up to some place, out of which it has more carries than the row's own none.
    for link, later in zip(links, ways[1:]):
        ahead = [out for out, (first, last) in link.items() if out > 0 and first <= 0 <= last]
        number += sum([later.get(out, 0) for out in ahead])
    return number


def row_in_class(house, row, number):
    """The row of the class at a position."""
    if not is_count_below(number, class_size(house, row)):
        raise InvalidNumber(number)
    links = links_of_class(house, row)
    ways = ways_on(links)
    left = number
    outs = [0]
    for link, later in zip(links, ways[1:]):
        # The more goes out of a place, the less it holds.
        for out in sorted(link, reverse=True):
            first, last = link[out]
            many = later.get(out, 0) if first <= outs[-1] <= last else 0
            if left < many:
                outs.append(out)
                break
            left = left - many
    return counts_carried(house, row, outs[1:-1])


def links_from_least(house, row):
    """The links of all carries from the least row of the class to the others."""
    return links_of_class(house, least_row(house, row))


def layers_of_class(house, row):
    """The layers of how many ways lead from the least row of the class to the others, by the things lost."""
    fewest, most = thing_range(house, row)
    return layers_of_losses(house, links_from_least(house, row), most - fewest + 1)


def by_things(house, row):
    """The dictionary from the numbers of things that rows of the class have to how many rows have so many."""
    _, most = thing_range(house, row)
    many = layers_of_class(house, row)[-1][0]
    losses = [lost for lost in range(len(many)) if many[lost] > 0]
    return {most - lost: many[lost] for lost in losses[::-1]}


def check_number(number):
    """Raises InvalidNumber unless this is a whole number."""
    if not is_whole(number):
        raise InvalidNumber(number)


def row_of_things(house, row, number):
    """A row of the class that has so many things, None if none has."""
    check_house_and_row(house, row)
    check_number(number)
    _, most = thing_range(house, row)
    layers = layers_of_class(house, row)
    lost = most - number
    if not is_count_below(lost, len(layers[-1][0])) or layers[-1][0][lost] == 0:
        return None
    outs = carries_by_loss(house, links_from_least(house, row), layers, lost)
    return counts_carried(house, least_row(house, row), outs)


def is_row_of_things(house, row, number, value):
    """Whether any object is a row of the class that has so many things."""
    check_house_and_row(house, row)
    check_number(number)
    return is_in_class(house, row, value) and sum(value) == number


def is_exchange(base, rooms, counts):
    """Whether a deed is let between two boxes side by side."""
    low, high = counts
    room_below, room_above = rooms
    return (low >= base and high < room_above) or (high > 0 and low + base <= room_below)


def many_alone(house):
    """How many rows of the house are alone."""
    check_house(house)
    rooms = house.rooms()
    ways = [1] * (rooms[0] + 1)
    for base, below, above in zip(house.bases(), rooms, rooms[1:]):
        later = []
        for high in range(above + 1):
            alone = [many for low, many in enumerate(ways) if not is_exchange(base, (below, above), (low, high))]
            later.append(sum(alone))
        ways = later
    return sum(ways)


def many_deeds(house):
    """How many tuples of a row and a deed let at it there are."""
    check_house(house)
    rooms = house.rooms()
    total = 0
    for base, below, above in zip(house.bases(), rooms, rooms[1:]):
        # Each up leads from one of these pairs of counts, and is taken back by a down.
        pairs = max(0, below - base + 1) * above
        total += 2 * pairs * many_rows(house) // ((below + 1) * (above + 1))
    return total


def rows_of_worth(house, worth):
    """How many rows of the house have a worth."""
    check_house(house)
    check_number(worth)
    return many_rows_of_worth(house, worth)


def classes_of_worth(house, worth):
    """How many classes of the house have a worth."""
    return rows_of_worth(house_of_parts(house), worth)


def sizes_by_parts(house):
    """The list, part by part, of the list by part worths of how many ways the part holds them."""
    return [many_of_each_worth(part) for part in houses_of_parts(house)]


def greatest_size(house):
    """How many rows a class has that has the most."""
    size = 1
    for sizes in sizes_by_parts(house):
        size = size * max(sizes)
    return size


def crowded_row(house):
    """A row of a class that has the most rows."""
    return row_of_class(house, [sizes.index(max(sizes)) for sizes in sizes_by_parts(house)])


def is_crowded_row(house, value):
    """Whether any object is a row of a class that has the most rows."""
    most = greatest_size(house)
    return is_row(house, value) and class_size(house, value) == most

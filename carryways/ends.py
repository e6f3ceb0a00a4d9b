"""The ends of a class: its least and its greatest row, and the carries between them."""

from carryways.carrying import best_carries, links_of, whole_limits
from carryways.classes import carries_between, counts_carried, is_in_class, part_worths, row_of_class
from carryways.rows import check_house_and_row


def turned(house, row):
    """The row that has what the rooms of a row have left."""
    return [room - count for room, count in zip(house.rooms(), row)]


def least_row(house, row):
    """The row of the class to which all least carries lead: the one with the most things."""
    check_house_and_row(house, row)
    # With what is there and what is not exchanged, up is down: the least row becomes the greatest one.
    return turned(house, greatest_row(house, turned(house, row)))


def greatest_row(house, row):
    """The row of the class to which all greatest carries lead: the one with the fewest things."""
    return row_of_class(house, part_worths(house, row))


def carry_ranges(house, row):
    """The list, for each place but the last, of the least and the greatest carries to rows of the class."""
    least = carries_between(house, row, least_row(house, row))
    return list(zip(least, carries_between(house, row, greatest_row(house, row))))


def deeds_of_carries(carries):
    """How many deeds a shortest chain has: all carries together without their signs."""
    return sum([abs(out) for out in carries])


def farthest_deeds(house, row):
    """The greatest number of deeds of a shortest chain between two rows of the class."""
    return sum([high - low for low, high in carry_ranges(house, row)])


def carries_to_farthest(house, row):
    """The carries from the row to one of its class to which the most deeds are needed."""
    return best_carries(links_of(house, row, whole_limits(house), carry_ranges(house, row)), 1)


def most_deeds(house, row):
    """The greatest number of deeds of a shortest chain from the row to one of its class."""
    check_house_and_row(house, row)
    return deeds_of_carries(carries_to_farthest(house, row))


def farthest(house, row):
    """A row of the class to which the most deeds are needed."""
    check_house_and_row(house, row)
    return counts_carried(house, row, carries_to_farthest(house, row))


def is_farthest(house, row, value):
    """Whether any object is a row of the class to which the most deeds are needed."""
    most = most_deeds(house, row)
    return is_in_class(house, row, value) and deeds_of_carries(carries_between(house, row, value)) == most


def dead_places(house, row):
    """The ascending list of the places at which no chain from the row has a deed."""
    return [place for place, (low, high) in enumerate(carry_ranges(house, row)) if low == high]


def thing_range(house, row):
    """The tuple of the least and the greatest number of things of rows of the class."""
    return (sum(greatest_row(house, row)), sum(least_row(house, row)))

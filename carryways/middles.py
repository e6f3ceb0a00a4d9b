"""Rows in the middle of other rows of their class: by the sum of the deeds to them, or by the greatest number."""

from carryways.carrying import links_of, many_ways, whole_limits
from carryways.checks import are_counts_within
from carryways.classes import carries_between, counts_carried, is_in_class, joined
from carryways.counts import rows_of_class
from carryways.ends import deeds_of_carries
from carryways.errors import Apart, InvalidRows
from carryways.houses import check_house, check_row


def check_rows(house, rows):
    """Raises InvalidHouse, then InvalidRows, unless this is a list, not empty, of rows of a house."""
    check_house(house)
    if not isinstance(rows, list) or len(rows) == 0:
        raise InvalidRows(rows)
    if not all([are_counts_within(row, house.rooms()) for row in rows]):
        raise InvalidRows(rows)


def check_one_class(house, rows):
    """Raises Apart with the first row that is not of the class of the first one."""
    for row in rows:
        if not joined(house, rows[0], row):
            raise Apart(row)


def check_joined_rows(house, rows):
    """Raises InvalidHouse, InvalidRows, then Apart, unless these are rows of one class of a house."""
    check_rows(house, rows)
    check_one_class(house, rows)


def deeds_to_each(house, rows, row):
    """The list, row by row, of how many deeds a shortest chain from the row to it has."""
    return [deeds_of_carries(carries_between(house, row, late)) for late in rows]


def sum_of_deeds(house, rows, row):
    """How many deeds shortest chains from the row to all of the rows have together."""
    check_rows(house, rows)
    check_row(house, row)
    check_one_class(house, rows + [row])
    return sum(deeds_to_each(house, rows, row))


def carries_by_place(house, rows):
    """The list, for each place but the last, of the ascending list of the carries there from the first row to all."""
    outs = [carries_between(house, rows[0], row) for row in rows]
    return [sorted([out[place] for out in outs]) for place in range(house.places() - 1)]


def row_of_rank(house, rows, rank):
    """The row to which the carries lead, place by place, below which so many of the rows' carries stand."""
    return counts_carried(house, rows[0], [numbers[rank] for numbers in carries_by_place(house, rows)])


def middle(house, rows):
    """The row with the least sum of deeds to an odd number of rows."""
    check_rows(house, rows)
    if len(rows) % 2 == 0:
        raise InvalidRows(rows)
    check_one_class(house, rows)
    return row_of_rank(house, rows, len(rows) // 2)


def middle_ends(house, rows):
    """The tuple of the rows to which the lower and the upper middle ones of the carries lead."""
    check_joined_rows(house, rows)
    return (row_of_rank(house, rows, (len(rows) - 1) // 2), row_of_rank(house, rows, len(rows) // 2))


def spans_between_ends(house, rows):
    """The spans of the carries from the lower middle row to those with the least sum of deeds."""
    lower, upper = middle_ends(house, rows)
    return [(0, out) for out in carries_between(house, lower, upper)]


def is_middle(house, rows, value):
    """Whether any object is a row of the class with the least sum of deeds."""
    lower, _ = middle_ends(house, rows)
    if not is_in_class(house, rows[0], value):
        return False
    outs = carries_between(house, lower, value)
    return all([low <= out <= high for out, (low, high) in zip(outs, spans_between_ends(house, rows))])


def least_sum(house, rows):
    """The least sum of deeds that a row of the class has."""
    lower, _ = middle_ends(house, rows)
    return sum_of_deeds(house, rows, lower)


def many_middles(house, rows):
    """How many rows of the class have the least sum of deeds."""
    lower, _ = middle_ends(house, rows)
    return many_ways(links_of(house, lower, whole_limits(house), spans_between_ends(house, rows)))


def most_to_each(house, rows, row):
    """The greatest number of deeds of shortest chains from the row to one of the rows."""
    return max(deeds_to_each(house, rows, row))


def least_most(house, rows):
    """The tuple of the least greatest number of deeds to one of the rows, and the first row that has it."""
    check_joined_rows(house, rows)
    return min([(most_to_each(house, rows, row), row) for row in rows_of_class(house, rows[0])])


def center(house, rows):
    """A row of the class whose greatest number of deeds to one of the rows is as small as can be."""
    _, row = least_most(house, rows)
    return row


def is_center(house, rows, value):
    """Whether any object is a row of the class whose greatest number of deeds to one of the rows is least."""
    most, _ = least_most(house, rows)
    return is_in_class(house, rows[0], value) and most_to_each(house, rows, value) == most

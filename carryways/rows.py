"""Rows of a house, and the deeds and chains that lead from row to row."""

from carryways.checks import are_counts_within, is_count_below
from carryways.errors import InvalidChain, InvalidDeed, Refused
from carryways.houses import check_house, check_place, check_row, weights

DOWN = "down"
UP = "up"


def check_house_and_row(house, row):
    """Raises InvalidHouse, then InvalidRow, unless this is a house and a row of it."""
    check_house(house)
    check_row(house, row)


def check_two_rows(house, one, other):
    """Raises InvalidHouse, then InvalidRow, one by one, unless these are two rows of a house."""
    check_house_and_row(house, one)
    check_row(house, other)


def is_row(house, value):
    """Whether any object is a row of the house."""
    check_house(house)
    return are_counts_within(value, house.rooms())


def worth_of(house, row):
    """The sum of the counts of the row times the weights."""
    check_house_and_row(house, row)
    return weighed(house, row)


def weighed(house, counts):
    """What counts are worth that stand at the first places of the house."""
    return sum([count * weight for count, weight in zip(counts, weights(house))])


def many_things(house, row):
    """The sum of the counts of the row."""
    check_house_and_row(house, row)
    return sum(row)


def is_deed(house, value):
    """Whether any object is a deed of the house."""
    if not isinstance(value, tuple) or len(value) != 2:
        return False
    word, place = value
    # No deed begins at the last place: there is no next one.
    return word in (DOWN, UP) and is_count_below(place, house.places() - 1)


def check_deed(house, deed):
    """Raises InvalidDeed unless this is a deed of the house."""
    if not is_deed(house, deed):
        raise InvalidDeed(deed)


def all_deeds(house):
    """The ascending list of the deeds of the house, let or not."""
    return [(word, place) for word in (DOWN, UP) for place in range(house.places() - 1)]


def things_up(deed):
    """How many things a deed adds to the next place: 1 or -1."""
    word, _ = deed
    return 1 if word == UP else -1


def counts_behind(house, row, deed):
    """The counts that come from a row by a deed, also if they are no row."""
    _, place = deed
    counts = list(row)
    counts[place] -= things_up(deed) * house.bases()[place]
    counts[place + 1] += things_up(deed)
    return counts


def leads_to_row(house, row, deed):
    """Whether a row comes from a row by a deed."""
    return are_counts_within(counts_behind(house, row, deed), house.rooms())


def deeds_let(house, row):
    """The ascending list of the deeds that are let at the row."""
    check_house_and_row(house, row)
    return [deed for deed in all_deeds(house) if leads_to_row(house, row, deed)]


def is_let(house, row, deed):
    """Whether a deed is let at the row."""
    check_house_and_row(house, row)
    check_deed(house, deed)
    return leads_to_row(house, row, deed)


def done(house, row, deed):
    """The row that comes from the row by a deed."""
    if not is_let(house, row, deed):
        raise Refused(deed)
    return counts_behind(house, row, deed)


def rows_beside(house, row):
    """The ascending list of the rows that come from the row by single deeds."""
    return sorted([counts_behind(house, row, deed) for deed in deeds_let(house, row)])


def is_alone(house, row):
    """Whether no deed is let at the row."""
    return deeds_let(house, row) == []


def deed_between(house, one, other):
    """The deed by which the other row comes from the one, None if there is none."""
    check_two_rows(house, one, other)
    for deed in all_deeds(house):
        if counts_behind(house, one, deed) == other:
            return deed
    return None


def rows_along(house, row, value):
    """The list of the rows on the way of any object from the row, None if it is no chain from there."""
    if not isinstance(value, list):
        return None
    rows = [list(row)]
    for deed in value:
        if not is_deed(house, deed) or not leads_to_row(house, rows[-1], deed):
            return None
        rows.append(counts_behind(house, rows[-1], deed))
    return rows


def is_chain_from(house, row, value):
    """Whether any object is a chain from the row."""
    check_house_and_row(house, row)
    return rows_along(house, row, value) is not None


def rows_on(house, row, chain):
    """The list of the rows on the way of a chain, the row itself first."""
    check_house_and_row(house, row)
    rows = rows_along(house, row, chain)
    if rows is None:
        raise InvalidChain(chain)
    return rows


def row_behind(house, row, chain):
    """The row behind a chain from the row."""
    return rows_on(house, row, chain)[-1]


def check_chain(house, row, chain):
    """Raises InvalidHouse, InvalidRow, then InvalidChain, unless this is a chain from the row."""
    if not is_chain_from(house, row, chain):
        raise InvalidChain(chain)


def contrary(deed):
    """The deed that takes a deed back."""
    word, place = deed
    return (DOWN if word == UP else UP, place)


def chain_back(house, row, chain):
    """The chain from the row behind a chain back to the row."""
    check_chain(house, row, chain)
    return [contrary(deed) for deed in reversed(chain)]


def deeds_counted(house, row, chain):
    """The list, place by place but the last, of how many deeds up less how many down the chain has there."""
    check_chain(house, row, chain)
    counted = [0] * (house.places() - 1)
    for deed in chain:
        _, place = deed
        counted[place] += things_up(deed)
    return counted


def first_unlike(house, one, other):
    """The first place at which both rows differ, None if they are the same."""
    check_two_rows(house, one, other)
    for place in range(house.places()):
        if one[place] != other[place]:
            return place
    return None


def same_up_to(house, one, other, place):
    """Whether what both rows hold up to a place, weighed, is the same."""
    check_two_rows(house, one, other)
    check_place(house, place)
    return weighed(house, one[:place + 1]) == weighed(house, other[:place + 1])

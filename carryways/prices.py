"""What the rows of a class cost: the cheapest ones, the bounds that prove it, and what comes with dues of deeds."""

from carryways.checks import are_counts, are_whole, is_dictionary_over, is_tuple_of, is_whole
from carryways.classes import carries_between, counts_carried, is_in_class
from carryways.counts import links_of_class, rows_of_class
from carryways.ends import least_row
from carryways.errors import InvalidBounds, InvalidDues, InvalidPrices
from carryways.houses import check_house
from carryways.pricing import (
    boxes_of, carries_of_least, layers_of, least_cost, many_of_least, no_dues, ways_into,
)
from carryways.rows import all_deeds, check_house_and_row, counts_behind, is_deed, leads_to_row


def are_prices(house, value):
    """Whether any object is prices of the house."""
    check_house(house)
    if not isinstance(value, list) or len(value) != house.places():
        return False
    return all([are_whole(costs, room + 1) for costs, room in zip(value, house.rooms())])


def check_prices(house, prices):
    """Raises InvalidPrices unless these are prices of the house."""
    if not are_prices(house, prices):
        raise InvalidPrices(prices)


def check_all(house, row, prices):
    """Raises InvalidHouse, InvalidRow, then InvalidPrices, unless these are a house, a row and prices of it."""
    check_house_and_row(house, row)
    check_prices(house, prices)


def cost_of(row, prices):
    """What a row costs."""
    return sum([costs[count] for count, costs in zip(row, prices)])


def price_of(house, row, prices):
    """What the row costs."""
    check_all(house, row, prices)
    return cost_of(row, prices)


def boxes_from(house, row, prices, dues):
    """The boxes of all carries from the row to rows of its class."""
    return boxes_of(house, row, links_of_class(house, row), prices, dues)


def least_price(house, row, prices):
    """The least that a row of the class costs."""
    check_all(house, row, prices)
    return least_cost(boxes_from(house, row, prices, no_dues(house)))


def cheapest(house, row, prices):
    """A row of the class that costs the least."""
    check_all(house, row, prices)
    return counts_carried(house, row, carries_of_least(boxes_from(house, row, prices, no_dues(house))))


def is_cheapest(house, row, prices, value):
    """Whether any object is a row of the class that costs the least."""
    least = least_price(house, row, prices)
    return is_in_class(house, row, value) and cost_of(value, prices) == least


def many_cheapest(house, row, prices):
    """How many rows of the class cost the least."""
    check_all(house, row, prices)
    return many_of_least(boxes_from(house, row, prices, no_dues(house)))


def boxes_from_least(house, row, prices):
    """The boxes of all carries from the least row of the class to the others."""
    return boxes_from(house, least_row(house, row), prices, no_dues(house))


def bounds_of(house, row, prices):
    """The bounds in which each number is as great as can be."""
    check_all(house, row, prices)
    layers = layers_of(boxes_from_least(house, row, prices))[1:-1]
    return {(place, out): layer[out] for place, layer in enumerate(layers) for out in sorted(layer)}


def are_bounds(house, row, prices, value):
    """Whether any object is bounds."""
    told = bounds_of(house, row, prices)
    if not is_dictionary_over(value, told) or not all([is_whole(number) for number in list(value.values())]):
        return False
    layers = layers_of_bounds(house, value)
    boxes = boxes_from_least(house, row, prices)
    for box, early, late in zip(boxes, layers, layers[1:]):
        if not all([number <= ways_into(early, box, out)[0][0] for out, number in late.items()]):
            return False
    return True


def layers_of_bounds(house, bounds):
    """The layers, into the first place, then out of each one but the last, of the numbers of bounds."""
    layers = [{0: 0}] + [{} for _ in range(house.places() - 1)]
    for (place, out), number in bounds.items():
        layers[place + 1][out] = number
    return layers


def least_by(house, row, prices, bounds):
    """The least sum of a number of bounds and the price of what the last place holds then."""
    if not are_bounds(house, row, prices, bounds):
        raise InvalidBounds(bounds)
    last_box = boxes_from_least(house, row, prices)[-1]
    return ways_into(layers_of_bounds(house, bounds)[-1], last_box, 0)[0][0]


def check_dues(house, dues):
    """Raises InvalidDues unless these are counts, one for each place but the last."""
    if not are_counts(dues, house.places() - 1):
        raise InvalidDues(dues)


def least_total(house, row, prices, dues):
    """The least that a row of the class costs together with the deeds of a chain from the row to it."""
    check_all(house, row, prices)
    check_dues(house, dues)
    return least_cost(boxes_from(house, row, prices, dues))


def best_row(house, row, prices, dues):
    """A row of the class that costs the least together with the deeds of a chain from the row to it."""
    check_all(house, row, prices)
    check_dues(house, dues)
    return counts_carried(house, row, carries_of_least(boxes_from(house, row, prices, dues)))


def is_best_row(house, row, prices, dues, value):
    """Whether any object is a row of the class that costs the least together with the deeds."""
    least = least_total(house, row, prices, dues)
    if not is_in_class(house, row, value):
        return False
    outs = carries_between(house, row, value)
    return cost_of(value, prices) + sum([due * abs(out) for due, out in zip(dues, outs)]) == least


def two_prices(house, row, prices, others):
    """The ascending list of the tuples of both prices of rows of the class that no other row undercuts."""
    check_all(house, row, prices)
    check_prices(house, others)
    found = []
    for pair in sorted([(cost_of(late, prices), cost_of(late, others)) for late in rows_of_class(house, row)]):
        # The pairs ahead are at most as dear by the first prices, so the second ones alone decide.
        if found == [] or pair[1] < found[-1][1]:
            found.append(pair)
    return found


def prices_alike(house, row, prices):
    """Whether all rows of the class cost the same."""
    check_all(house, row, prices)
    contrary_prices = [[-cost for cost in costs] for costs in prices]
    return least_price(house, row, prices) == -least_price(house, row, contrary_prices)


def changes_cost(house, row, deed, prices):
    """Whether a deed changes what a row costs."""
    return cost_of(counts_behind(house, row, deed), prices) != cost_of(row, prices)


def unlike_deed(house, row, prices):
    """A tuple of a row of the class and a deed let there that changes what it costs, None if there is none."""
    check_all(house, row, prices)
    for early in rows_of_class(house, row):
        for deed in all_deeds(house):
            if leads_to_row(house, early, deed) and changes_cost(house, early, deed, prices):
                return (early, deed)
    return None


def is_unlike_deed(house, row, prices, value):
    """Whether any object is a tuple of a row of the class and a deed let there that changes what it costs."""
    check_all(house, row, prices)
    if not is_tuple_of(value, 2):
        return False
    early, deed = value
    if not is_in_class(house, row, early) or not is_deed(house, deed):
        return False
    return leads_to_row(house, early, deed) and changes_cost(house, early, deed, prices)

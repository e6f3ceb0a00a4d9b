"""Things that come and go: whether they are served, by which rows, with how few deeds, and in which orders."""

from carryways.checks import is_count, is_count_below, is_dictionary_over, is_just, is_tuple_of
from carryways.classes import is_in_class, row_of_class
from carryways.errors import InvalidBounds, InvalidEvents, Refused
from carryways.houses import check_house
from carryways.lots import are_positions, is_order, lots_served, orders_of_all, positions_next
from carryways.rows import check_house_and_row, rows_beside
from carryways.serving import (
    bars_of_event, counts_come, deeds_between, fits_ever, greatest_heights, happens, is_event, run_of_heights,
    starts_behind, wish_for, worths_served,
)
from carryways.wishes import meeting_row


def are_events(house, value):
    """Whether any object is events of the house."""
    check_house(house)
    return isinstance(value, list) and all([is_event(house, event) for event in value])


def check_event(house, event):
    """Raises InvalidEvents unless this is an event of the house."""
    if not is_event(house, event):
        raise InvalidEvents(event)


def check_all(house, row, events):
    """Raises InvalidHouse, InvalidRow, then InvalidEvents, unless these are a house, a row and events of it."""
    check_house_and_row(house, row)
    if not are_events(house, events):
        raise InvalidEvents(events)


def behind_event(house, row, event):
    """The row behind an event that happens at the row."""
    check_house_and_row(house, row)
    check_event(house, event)
    if not happens(house, row, event):
        raise Refused(event)
    return counts_come(row, event)


def wish_of(house, event):
    """The wish that a row meets exactly if an event happens there."""
    check_house(house)
    check_event(house, event)
    if not fits_ever(house, event):
        raise Refused(event)
    return wish_for(house, event)


def is_served(house, row, events):
    """Whether events are served from the row."""
    return first_unserved(house, row, events) is None


def first_unserved(house, row, events):
    """The position of the first event that is not served, None if all are."""
    served = len(worths_along(house, row, events)) - 1
    return served if served < len(events) else None


def worths_along(house, row, events):
    """The list of the part worths ahead of each event, up to the first that is not served, or behind the last one."""
    check_all(house, row, events)
    return worths_served(house, row, events)


def run_of(house, row, events):
    """A run of events, None if they are not served."""
    if not is_served(house, row, events):
        return None
    run = []
    for worths, event in zip(worths_along(house, row, events), events):
        run.append(meeting_row(house, row_of_class(house, worths), wish_for(house, event)))
    return run


def is_run_of(house, row, events, value):
    """Whether any object is a run of events."""
    check_all(house, row, events)
    if not isinstance(value, list) or len(value) != len(events):
        return False
    ahead = row
    for event, late in zip(events, value):
        if not is_in_class(house, ahead, late) or not happens(house, late, event):
            return False
        ahead = counts_come(late, event)
    return True


def whys_unserved(house, row, events):
    """The list of the tuples of the position of the first event that is not served and a place that bars it."""
    worths = worths_along(house, row, events)
    position = len(worths) - 1
    if position == len(events):
        return []
    return [(position, place) for place in bars_of_event(house, worths[-1], events[position])]


def why_unserved(house, row, events):
    """A tuple of the position of the first event that is not served and a place that bars it, None if all are."""
    whys = whys_unserved(house, row, events)
    return whys[0] if whys != [] else None


def is_why_unserved(house, row, events, value):
    """Whether any object is a tuple of the position of the first event that is not served and a place that bars it."""
    return any([is_just(value, why) for why in whys_unserved(house, row, events)])


def toll_of(house, row, events, run):
    """How many deeds a run takes."""
    toll = 0
    ahead = row
    for event, late in zip(events, run):
        toll += deeds_between(house, ahead, late)
        ahead = counts_come(late, event)
    return toll


def least_toll(house, row, events):
    """The least number of deeds that a run takes, None if the events are not served."""
    run = run_of_least(house, row, events)
    return toll_of(house, row, events, run) if run is not None else None


def run_of_least(house, row, events):
    """A run that takes the fewest deeds, None if the events are not served."""
    if not is_served(house, row, events):
        return None
    return run_of_heights(house, events, greatest_heights(house, row, events))


def is_run_of_least(house, row, events, value):
    """Whether any object is a run that takes the fewest deeds."""
    return is_run_of(house, row, events, value) and toll_of(house, row, events, value) == least_toll(house, row, events)


def heights_of(house, row, events):
    """The heights of events that are served in which each is as great as can be."""
    if not is_served(house, row, events):
        raise Refused(events)
    return greatest_heights(house, row, events)


def are_even(house, heights):
    """Whether the heights of all rows are unlike by at most 1 across each deed."""
    for row, height in heights.items():
        if any([abs(heights[tuple(late)] - height) > 1 for late in rows_beside(house, list(row))]):
            return False
    return True


def rise_nowhere(house, events, layers):
    """Whether the heights behind each event are at most as great as those ahead of it."""
    for event, early, late in zip(events, layers, layers[1:]):
        if any([late[row] > height for row, height in starts_behind(house, early, event).items()]):
            return False
    return True


def are_heights(house, row, events, value):
    """Whether any object is heights of events that are served."""
    told = heights_of(house, row, events)
    if not isinstance(value, list) or len(value) != len(told):
        return False
    for heights, wanted in zip(value, told):
        if not is_dictionary_over(heights, wanted) or not all([is_count(height) for height in list(heights.values())]):
            return False
        if not are_even(house, heights):
            return False
    return value[0][tuple(row)] == 0 and rise_nowhere(house, events, value)


def least_by(house, row, events, heights):
    """The least height of a row behind the last event, 0 without events."""
    if not are_heights(house, row, events, heights):
        raise InvalidBounds(heights)
    if events == []:
        return 0
    return min([heights[-1][late] for late in starts_behind(house, heights[-2], events[-1])])


def is_served_so(house, row, events, order):
    """Whether events are served in an order."""
    check_all(house, row, events)
    if not is_order(events, order):
        raise InvalidEvents(order)
    return is_served(house, row, [events[position] for position in order])


def many_orders(house, row, events):
    """In how many orders events are served."""
    check_all(house, row, events)
    many, _ = orders_of_all(house, row, events)
    return many


def any_order(house, row, events):
    """An order in which events are served, None if there is none."""
    return first_order(house, row, events)


def first_order(house, row, events):
    """The first of all orders in which events are served, as lists are ordered, None if there is none."""
    check_all(house, row, events)
    _, order = orders_of_all(house, row, events)
    return order


def always_served(house, row, events):
    """Whether events are served in every order."""
    return bad_lot(house, row, events) is None


def bad_lot(house, row, events):
    """A tuple of positions of events that can come first and another one that is not served then, None if none is."""
    check_all(house, row, events)
    for lot in lots_served(house, row, events):
        bad = positions_next(house, row, events, lot, False)
        if bad != []:
            return (list(lot), bad[0])
    return None


def is_bad_lot(house, row, events, value):
    """Whether any object is a tuple of positions of events that can come first and one that is not served then."""
    check_all(house, row, events)
    if not is_tuple_of(value, 2):
        return False
    lot, position = value
    if not are_positions(events, lot) or not is_count_below(position, len(events)):
        return False
    # Lots are ascending tuples, so a list in another order, or with a position twice, is none of them.
    if tuple(lot) not in lots_served(house, row, events):
        return False
    return position in positions_next(house, row, events, tuple(lot), False)

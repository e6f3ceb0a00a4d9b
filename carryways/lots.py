"""Lots of events: which can come first in some order, and in how many orders they are served.

A *lot* is an ascending tuple of positions of events. The class behind it hangs on which they are, not on their order.
"""

from carryways.checks import is_count_below
from carryways.classes import part_worths
from carryways.serving import bars_of_event, worths_behind


def worths_behind_lot(house, row, events, lot):
    """The part worths behind the events of a lot, whatever their order."""
    worths = part_worths(house, row)
    for position in lot:
        worths = worths_behind(house, worths, events[position])
    return worths


def positions_next(house, row, events, lot, are_served):
    """The ascending list of the other positions whose events are served behind a lot, or of those that are not."""
    worths = worths_behind_lot(house, row, events, lot)
    others = [position for position in range(len(events)) if position not in lot]
    return [position for position in others if (bars_of_event(house, worths, events[position]) == []) == are_served]


def lots_behind(house, row, events, lots):
    """The lots with one event more, each with how many orders serve it and the first of these."""
    found = {}
    for lot, (many, first) in lots.items():
        for position in positions_next(house, row, events, lot, True):
            late = tuple(sorted(lot + (position,)))
            order = first + [position]
            others, ahead = found.get(late, (0, order))
            # The first order of a lot ends with some position behind the first order of the rest.
            found[late] = (many + others, min(ahead, order))
    return found


def lots_served(house, row, events):
    """The dictionary from the lots that are served when they come first to how many orders do, and the first one."""
    layer = {(): (1, [])}
    found = {(): (1, [])}
    for _ in events:
        layer = lots_behind(house, row, events, layer)
        found.update(layer)
    return found


def orders_of_all(house, row, events):
    """The tuple of how many orders serve all events and the first of these, None if there is none."""
    return lots_served(house, row, events).get(tuple(range(len(events))), (0, None))


def are_positions(events, value):
    """Whether any object is a list of positions of events."""
    return isinstance(value, list) and all([is_count_below(position, len(events)) for position in value])


def is_order(events, value):
    """Whether any object is a list of all positions of events, each once."""
    return are_positions(events, value) and sorted(value) == list(range(len(events)))

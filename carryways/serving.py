"""What comes to a house or goes: which events fit where, and the part worths and heights of classes behind them.

An *event* is a tuple of a place and of how many things come there, or go if the number is below 0.
"""

from carryways.carrying import whole_limits
from carryways.checks import are_counts_within, is_count_below, is_tuple_of, is_whole
from carryways.classes import carries_between, part_worths, parts
from carryways.ends import deeds_of_carries
from carryways.houses import weights
from carryways.rows import rows_beside
from carryways.wishes import bars_against


def is_event(house, value):
    """Whether any object is an event of the house."""
    if not is_tuple_of(value, 2):
        return False
    place, number = value
    return is_count_below(place, house.places()) and is_whole(number) and number != 0


def counts_come(row, event):
    """The counts behind an event, also if they are no row."""
    place, number = event
    return row[:place] + [row[place] + number] + row[place + 1:]


def happens(house, row, event):
    """Whether an event happens at the row."""
    return are_counts_within(counts_come(row, event), house.rooms())


def fits_ever(house, event):
    """Whether an event happens at some row of the house."""
    place, number = event
    return abs(number) <= house.rooms()[place]


def wish_for(house, event):
    """The wish that a row meets exactly if an event happens there; there must be such a row."""
    place, number = event
    wish = whole_limits(house)
    room = house.rooms()[place]
    wish[place] = (max(0, -number), min(room, room - number))
    return wish


def worths_behind(house, worths, event):
    """The part worths behind an event, where these are those ahead of it."""
    place, number = event
    found = list(worths)
    for at, (first, last) in enumerate(parts(house)):
        if first <= place <= last:
            found[at] += number * (weights(house)[place] // weights(house)[first])
    return found


def bars_of_event(house, worths, event):
    """The list of the places that keep an event from the class of some part worths, its own if it fits nowhere."""
    if not fits_ever(house, event):
        place, _ = event
        return [place]
    return bars_against(house, worths, wish_for(house, event))


def worths_served(house, row, events):
    """The list of the part worths ahead of each event and behind the last one, up to the first that is not served."""
    found = [part_worths(house, row)]
    for event in events:
        if bars_of_event(house, found[-1], event) != []:
            return found
        found.append(worths_behind(house, found[-1], event))
    return found


def deeds_between(house, one, other):
    """How many deeds a shortest chain from the one row to the other of its class has."""
    return deeds_of_carries(carries_between(house, one, other))


def spread(house, starts):
    """The heights of all rows of a class, ascending, as great as can be: those of the starts, and 1 for each deed."""
    found = {row: height for row, height in starts.items()}
    layer = list(found)
    while layer != []:
        later = []
        for row in layer:
            for beside in rows_beside(house, list(row)):
                late = tuple(beside)
                if late not in found or found[late] > found[row] + 1:
                    found[late] = found[row] + 1
                    later.append(late)
        layer = later
    return {row: found[row] for row in sorted(found)}


def starts_behind(house, heights, event):
    """The dictionary from the rows behind an event to the least heights ahead of it."""
    starts = {}
    for row, height in heights.items():
        if happens(house, list(row), event):
            late = tuple(counts_come(list(row), event))
            # One row alone comes to each row behind.
            starts[late] = height
    return starts


def greatest_heights(house, row, events):
    """The heights of events that are served in which each is as great as can be."""
    heights = [spread(house, {tuple(row): 0})]
    for event in events:
        heights.append(spread(house, starts_behind(house, heights[-1], event)))
    return heights


def run_of_heights(house, events, heights):
    """A run with the least toll, found from its end back by the heights that are as great as can be."""
    if events == []:
        return []
    last_rows = [list(row) for row in heights[-2] if happens(house, list(row), events[-1])]
    run = [min([(heights[-2][tuple(row)], row) for row in last_rows])[1]]
    for event, early, late in list(zip(events[:-1], heights, heights[1:]))[::-1]:
        run.append(row_ahead(house, event, early, late, run[-1]))
    return run[::-1]


def row_ahead(house, event, early, late, goal):
    """The row at which an event happens, with heights ahead of it and behind, on the way to a row with its height."""
    for key, height in early.items():
        row = list(key)
        if happens(house, row, event):
            if height + deeds_between(house, counts_come(row, event), goal) == late[tuple(goal)]:
                return row
    return None

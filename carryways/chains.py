"""Shortest chains between rows of a class, the rounds in which their deeds can be done at once, and the necks."""

from carryways.checks import are_counts_within
from carryways.classes import carries, check_joined
from carryways.ends import deeds_of_carries
from carryways.errors import InvalidChain, InvalidSteps, Refused
from carryways.rows import DOWN, UP, check_house_and_row, counts_behind, is_deed, leads_to_row, rows_along
from carryways.waiting import (
    all_waits, are_steps_of, is_step_of, is_waited_for, longest_wait, many_orders, rounds_of, steps_of_outs, waits_of,
)


def fewest_deeds(house, one, other):
    """Of how many deeds a shortest chain from the one row to the other is."""
    return deeds_of_carries(carries(house, one, other))


def shortest_chain(house, one, other):
    """A shortest chain from the one row to the other."""
    return [deed for deeds in rounds_for(house, one, other) for deed in deeds]


def is_chain(house, one, other, value):
    """Whether any object is a chain from the one row to the other."""
    check_joined(house, one, other)
    rows = rows_along(house, one, value)
    return rows is not None and rows[-1] == other


def is_shortest_chain(house, one, other, value):
    """Whether any object is a shortest chain from the one row to the other."""
    return is_chain(house, one, other, value) and len(value) == fewest_deeds(house, one, other)


def needed_deed(outs, place):
    """The deed that is needed at a place for carries."""
    return (UP if outs[place] > 0 else DOWN, place)


def first_deeds(house, one, other):
    """The ascending list of the deeds with which shortest chains from the one row to the other begin."""
    outs = carries(house, one, other)
    needed = [needed_deed(outs, place) for place, out in enumerate(outs) if out != 0]
    return sorted([deed for deed in needed if leads_to_row(house, one, deed)])


def waits_between(house, one, other):
    """The dictionary from each step from the one row to the other to the list of those for which it waits."""
    return all_waits(house, one, carries(house, one, other))


def many_shortest(house, one, other):
    """How many shortest chains from the one row to the other there are."""
    return many_orders(waits_between(house, one, other), house.places() - 1)


def steps_between(house, one, other):
    """The ascending list of the steps from the one row to the other."""
    return steps_of_outs(carries(house, one, other))


def waits_for(house, one, other, step):
    """The ascending list of the steps for which a step waits, at each place the last one alone."""
    outs = carries(house, one, other)
    if not is_step_of(outs, step):
        raise InvalidSteps(step)
    return waits_of(house, one, outs, step)


def are_deeds(house, value):
    """Whether any object is a list of deeds of the house, let or not."""
    return isinstance(value, list) and all([is_deed(house, deed) for deed in value])


def is_round_of(house, row, deeds):
    """Whether deeds of the house are a round at the row."""
    places = [place for _, place in deeds]
    if places == [] or any([late <= early for early, late in zip(places, places[1:])]):
        return False
    # In whatever order: a box must have room for all that comes without what goes, and the contrary.
    changes = [[late - early for early, late in zip(row, counts_behind(house, row, deed))] for deed in deeds]
    come = [count + sum([max(0, change[at]) for change in changes]) for at, count in enumerate(row)]
    gone = [count + sum([min(0, change[at]) for change in changes]) for at, count in enumerate(row)]
    return are_counts_within(come, house.rooms()) and are_counts_within(gone, house.rooms())


def row_behind_deeds(house, row, deeds):
    """The counts that come from a row by deeds one behind the other, also if they are no row."""
    counts = row
    for deed in deeds:
        counts = counts_behind(house, counts, deed)
    return counts


def is_round(house, row, value):
    """Whether any object is a round at the row."""
    check_house_and_row(house, row)
    return are_deeds(house, value) and is_round_of(house, row, value)


def behind_round(house, row, deeds):
    """The row behind a round at the row."""
    check_house_and_row(house, row)
    if not are_deeds(house, deeds):
        raise InvalidChain(deeds)
    if not is_round_of(house, row, deeds):
        raise Refused(deeds)
    return row_behind_deeds(house, row, deeds)


def are_rounds(house, one, other, value):
    """Whether any object is a list of rounds that leads from the one row to the other."""
    check_joined(house, one, other)
    if not isinstance(value, list):
        return False
    row = one
    for deeds in value:
        if not is_round(house, row, deeds):
            return False
        row = row_behind_deeds(house, row, deeds)
    return row == other


def step_rounds(house, one, other):
    """The list of the lists of steps of each round, each done as early as can be."""
    return rounds_of(waits_between(house, one, other), house.places() - 1)


def fewest_rounds(house, one, other):
    """Of how many rounds the least list of rounds from the one row to the other is."""
    return len(step_rounds(house, one, other))


def rounds_for(house, one, other):
    """The rounds of needed deeds from the one row to the other in which each step is done as early as can be."""
    outs = carries(house, one, other)
    return [[needed_deed(outs, place) for place, _ in steps] for steps in step_rounds(house, one, other)]


def moments(house, one, other):
    """The list, for each place but the last, of the numbers of the rounds in which its steps are done."""
    rounds = step_rounds(house, one, other)
    found = [[] for _ in range(house.places() - 1)]
    for number, steps in enumerate(rounds, start=1):
        for place, _ in steps:
            found[place].append(number)
    return found


def neck(house, one, other):
    """A neck with as many steps as there are fewest rounds."""
    waits = waits_between(house, one, other)
    return longest_wait(waits, rounds_of(waits, house.places() - 1))


def is_neck(house, one, other, value):
    """Whether any object is a list of steps, each of which waits for the one ahead of it."""
    outs = carries(house, one, other)
    if not are_steps_of(outs, value):
        return False
    waits = all_waits(house, one, outs)
    return all([is_waited_for(waits, late, early) for early, late in zip(value, value[1:])])

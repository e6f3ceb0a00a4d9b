"""Steps of a class: what is taken up, thing by thing, from its least row to its greatest one."""

from carryways.chains import many_shortest, neck, steps_between, waits_between, waits_for
from carryways.classes import carries, check_joined, counts_carried
from carryways.ends import greatest_row, least_row
from carryways.errors import InvalidSteps
from carryways.waiting import are_steps_of, rounds_of, steps_free, steps_of_outs, with_steps


def outs_of_class(house, row):
    """The carries from the least to the greatest row of the class."""
    return carries(house, least_row(house, row), greatest_row(house, row))


def steps_of(house, row):
    """The ascending list of the steps of the class."""
    return steps_of_outs(outs_of_class(house, row))


def taken(house, row):
    """The ascending list of the steps that lead from the least row of the class to the row."""
    return steps_between(house, least_row(house, row), row)


def needs(house, row, step):
    """The ascending list of the steps that a step needs."""
    # From the least row to the greatest one a step waits for just what it needs.
    return waits_for(house, least_row(house, row), greatest_row(house, row), step)


def needs_of_class(house, row):
    """The dictionary from each step of the class to the ascending list of those that it needs."""
    return waits_between(house, least_row(house, row), greatest_row(house, row))


def all_ahead(house, row, step):
    """The ascending list of the steps that a step needs, that these need, and so on."""
    ahead = needs(house, row, step)
    needed = needs_of_class(house, row)
    found = {}
    while ahead != []:
        early = ahead.pop()
        if early not in found:
            found[early] = True
            ahead.extend(needed[early])
    return sorted(found)


def are_closed(house, row, value):
    """Whether any object is a closed list of steps of the class."""
    if not are_steps_of(outs_of_class(house, row), value):
        return False
    if any([late <= early for early, late in zip(value, value[1:])]):
        return False
    needed = needs_of_class(house, row)
    held = {step: True for step in value}
    return all([early in held for step in value for early in needed[step]])


def row_by(house, row, steps):
    """The row of the class whose steps taken are just those of a closed list."""
    if not are_closed(house, row, steps):
        raise InvalidSteps(steps)
    places = [place for place, _ in steps]
    return counts_carried(house, least_row(house, row), [places.count(at) for at in range(house.places() - 1)])


def is_below(house, row, other):
    """Whether ups alone lead from the row to the other one of its class."""
    return all([out >= 0 for out in carries(house, row, other)])


def steps_above(house, row, other):
    """The ascending list of the steps that the other row of the class has taken and the row has not."""
    check_joined(house, row, other)
    held = {step: True for step in taken(house, row)}
    return [step for step in taken(house, other) if step not in held]


def climb(house, row):
    """A list of all steps of the class, each behind those that it needs."""
    rounds = rounds_of(needs_of_class(house, row), house.places() - 1)
    return [step for steps in rounds for step in steps]


def is_climb(house, row, value):
    """Whether any object is a list of all steps of the class, each once, each behind those that it needs."""
    if not are_steps_of(outs_of_class(house, row), value):
        return False
    needed = needs_of_class(house, row)
    done = [0] * (house.places() - 1)
    for step in value:
        if step not in steps_free(needed, done):
            return False
        done = with_steps(done, [step])
    return len(value) == len(needed)


def many_climbs(house, row):
    """How many climbs the class has."""
    return many_shortest(house, least_row(house, row), greatest_row(house, row))


def longest_needs(house, row):
    """A longest list of steps, each but the first needing the one ahead of it."""
    return neck(house, least_row(house, row), greatest_row(house, row))


def is_longest_needs(house, row, value):
    """Whether any object is a longest list of steps, each but the first needing the one ahead of it."""
    longest = len(longest_needs(house, row))
    if not are_steps_of(outs_of_class(house, row), value) or len(value) != longest:
        return False
    needed = needs_of_class(house, row)
    return all([early in needed[late] for early, late in zip(value, value[1:])])

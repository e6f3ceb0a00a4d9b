"""Steps: the needed deeds of shortest chains, one by one, and which of them wait for which.

*Outs* are carries from one row to another one. A step (place, t) is the t-th needed deed at a place.
"""

from carryways.checks import is_count_below, is_tuple_of, is_whole


def steps_of_outs(outs):
    """The ascending list of the steps of carries."""
    return [(place, at) for place, out in enumerate(outs) for at in range(1, abs(out) + 1)]


def is_step_of(outs, value):
    """Whether any object is a step of carries."""
    if not is_tuple_of(value, 2):
        return False
    place, at = value
    return is_count_below(place, len(outs)) and is_whole(at) and 1 <= at <= abs(outs[place])


def are_steps_of(outs, value):
    """Whether any object is a list of steps of carries."""
    return isinstance(value, list) and all([is_step_of(outs, step) for step in value])


def carried_by(out, many):
    """So many needed deeds of carries, ups less downs."""
    return many if out > 0 else -many


def is_room_between(house, row, outs, step, beside, many):
    """Whether the box between two places is a box of a row, with a step just done and so many done beside it."""
    place, at = step
    lower, upper = min(place, beside), max(place, beside)
    done = {place: carried_by(outs[place], at), beside: carried_by(outs[beside], many)}
    held = row[upper] + done[lower] - house.bases()[upper] * done[upper]
    return 0 <= held <= house.rooms()[upper]


def last_beside(house, row, outs, step, beside):
    """How many steps at a place beside it a step waits for: the fewest with which the box between is right."""
    many = 0
    while not is_room_between(house, row, outs, step, beside, many):
        many += 1
    return many


def waits_of(house, row, outs, step):
    """The ascending list of the steps for which a step waits, at each place the last one alone."""
    place, at = step
    found = [(place, at - 1)]
    for beside in (place - 1, place + 1):
        if is_count_below(beside, len(outs)):
            found.append((beside, last_beside(house, row, outs, step, beside)))
    return sorted([(where, last) for where, last in found if last > 0])


def all_waits(house, row, outs):
    """The dictionary from each step of carries to the list of those for which it waits, at each place the last one."""
    return {step: waits_of(house, row, outs, step) for step in steps_of_outs(outs)}


def steps_free(waits, done):
    """The ascending list of the steps that can be done next, where so many are done, place by place."""
    steps = [(place, many + 1) for place, many in enumerate(done)]
    return [step for step in steps if step in waits and all([done[place] >= last for place, last in waits[step]])]


def with_steps(done, steps):
    """How many steps are done, place by place, behind some more, at most one at each place."""
    places = [place for place, _ in steps]
    return [many + 1 if place in places else many for place, many in enumerate(done)]


def rounds_of(waits, places):
    """The list of the lists of steps that are done at once, if each is done as early as can be."""
    rounds = []
    done = [0] * places
    steps = steps_free(waits, done)
    while steps != []:
        rounds.append(steps)
        done = with_steps(done, steps)
        steps = steps_free(waits, done)
    return rounds


def many_orders(waits, places):
    """In how many orders all steps can be done, one by one."""
    ways = {tuple([0] * places): 1}
    for _ in waits:
        later = {}
        for done, many in ways.items():
            for step in steps_free(waits, list(done)):
                late = tuple(with_steps(list(done), [step]))
                later[late] = later.get(late, 0) + many
        ways = later
    return sum(list(ways.values()))


def is_waited_for(waits, step, early):
    """Whether a step waits for another one, be this the last one at its place or an earlier one."""
    place, _ = step
    beside, at = early
    lasts = [last for where, last in waits[step] if where == beside]
    return at in lasts or (beside != place and any([at < last for last in lasts]))


def longest_wait(waits, rounds):
    """A list of steps, one from each round, each of which waits for the one ahead of it."""
    found = []
    steps = rounds[-1] if rounds != [] else []
    for steps_then in rounds[::-1]:
        # Of the steps for which one waits, at least one was done in the round ahead: it was done no sooner.
        found.append([step for step in steps if step in steps_then][0])
        steps = waits[found[-1]]
    return found[::-1]

"""Worths that some row of a house has, the bars against the others, and houses that hold the same worths."""

from carryways.checks import is_count_below, is_just, is_tuple_of, is_whole
from carryways.classes import filled_up_to, greatest_first, joined, stiff_places
from carryways.errors import InvalidNumber
from carryways.houses import House, check_house, check_like_houses, held_up_to, stretch, weights, whole_worth
from carryways.rows import is_row, weighed


def check_worth(house, worth):
    """Raises InvalidHouse, then InvalidNumber, unless these are a house and a whole number."""
    check_house(house)
    if not is_whole(worth):
        raise InvalidNumber(worth)


def is_held(house, worth):
    """Whether some row of the house has a worth."""
    return row_of_worth(house, worth) is not None


def row_of_worth(house, worth):
    """A row of the house that has a worth, None if there is none."""
    check_worth(house, worth)
    return greatest_first(house, worth) if worth >= 0 else None


def is_row_of_worth(house, worth, value):
    """Whether any object is a row of the house that has a worth."""
    check_worth(house, worth)
    return is_row(house, value) and weighed(house, value) == worth


def bars_against_worth(house, worth):
    """The list of all bars against a worth."""
    held = held_up_to(house)
    bars = []
    if worth < 0:
        bars.append(("below",))
    if worth > held[-1]:
        bars.append(("above",))
    rests = [worth % weight for weight in weights(house)[1:]]
    return bars + [("place", place) for place, rest in enumerate(rests) if rest > held[place]]


def why_not_held(house, worth):
    """A bar against a worth, None if the worth is held."""
    check_worth(house, worth)
    bars = bars_against_worth(house, worth)
    return bars[0] if bars != [] else None


def is_why_not_held(house, worth, value):
    """Whether any object is a bar against a worth."""
    check_worth(house, worth)
    return any([is_just(value, bar) for bar in bars_against_worth(house, worth)])


def next_held(house, worth):
    """The least held worth that is at least so great, None if there is none."""
    check_worth(house, worth)
    # What is left of the whole is held exactly if the rest is.
    whole = whole_worth(house)
    last = last_held(house, whole - worth)
    return whole - last if last is not None else None


def last_held(house, worth):
    """The greatest held worth that is at most so great, None if there is none."""
    check_worth(house, worth)
    return weighed(house, filled_up_to(house, worth)) if worth >= 0 else None


def all_held(house):
    """Whether every worth from 0 to that of all rooms is held."""
    return gap_of(house) is None


def gap_of(house):
    """The least worth from 0 to that of all rooms that is not held, None if there is none."""
    held = held_up_to(house)
    for early, weight in zip(held, weights(house)[1:]):
        # The next weight is reached without a gap, or there is one just above all that is held so far.
        if early + 1 < weight and early < held[-1]:
            return early + 1
    return None


def many_rests_held(house):
    """The list, place by place, of how many numbers below the weight there have no bar at a place below."""
    many = [1]
    held = held_up_to(house)
    for place, weight in enumerate(weights(house)[1:]):
        many.append(many_below(house, many, place, min(weight, held[place] + 1)))
    return many


def many_below(house, many, place, bound):
    """How many counts below a bound have no bar at a place below that place, where so many rests have none."""
    found = 0
    left = bound
    for at in range(place, 0, -1):
        blocks, left = divmod(left, weights(house)[at])
        found += blocks * many[at]
        left = min(left, held_up_to(house)[at - 1] + 1)
    return found + left


def many_held(house):
    """How many worths are held."""
    return held_below(house, whole_worth(house) + 1)


def held_below(house, worth):
    """How many held worths are below a worth."""
    check_worth(house, worth)
    bound = min(max(0, worth), whole_worth(house) + 1)
    return many_below(house, many_rests_held(house), house.places() - 1, bound)


def worth_at(house, number):
    """The held worth below which there are so many held ones."""
    if not is_count_below(number, many_held(house)):
        raise InvalidNumber(number)
    worth = 0
    left = number
    for weight, many in zip(weights(house)[::-1], many_rests_held(house)[::-1]):
        blocks, left = divmod(left, many)
        worth += blocks * weight
    return worth


def worth_decides(house):
    """Whether any two rows of one worth are joined."""
    return two_of_worth(house) is None


def two_of_worth(house):
    """A tuple of two rows of one worth that are not joined, None if there are none."""
    places = house_places(house)
    held, rooms = held_up_to(house), house.rooms()
    for place in stiff_places(house):
        above = [late for late in places if late > place and rooms[late] > 0]
        if above != [] and held[place] >= weights(house)[above[0]]:
            one = [1 if late == above[0] else 0 for late in places]
            below = greatest_first(stretch(house, 0, place), weights(house)[above[0]])
            return (one, below + [0 for late in places if late > place])
    return None


def house_places(house):
    """The list of the places of the house."""
    check_house(house)
    return list(range(house.places()))


def is_two_of_worth(house, value):
    """Whether any object is a tuple of two rows of one worth that are not joined."""
    check_house(house)
    if not is_tuple_of(value, 2):
        return False
    one, other = value
    if not is_row(house, one) or not is_row(house, other):
        return False
    return weighed(house, one) == weighed(house, other) and not joined(house, one, other)


def holds_alike(one, other):
    """Whether two houses hold just the same worths."""
    return unlike_worth(one, other) is None


def unlike_worth(one, other):
    """The least worth that just one of two houses holds, None if there is none."""
    check_like_houses(one, other)
    for first, second in zip(marks_of(one), marks_of(other)):
        # Up to the lesser mark both hold the same; behind it, just the other house goes on.
        if first != second:
            return next_held(one if first > second else other, min(first, second) + 1)
    return None


def marks_of(house):
    """The list, place by place but the last, of the greatest held rests there, with the whole worth behind them."""
    check_house(house)
    marks = []
    held, early = held_up_to(house), 0
    for place, base in enumerate(house.bases()):
        weight = weights(house)[place]
        early = held[place] if held[place] < base * weight else (base - 1) * weight + early
        marks.append(early)
    return marks + [held[-1]]


def least_alike(house):
    """The house that holds just the same worths, with rooms that are worth as little as can be up to each place."""
    marks = marks_of(house)
    upto = []
    for mark, weight in zip(marks, weights(house)[1:]):
        rest = marks[-1] % weight
        upto.append(rest if rest == mark else rest + weight)
    upto.append(marks[-1])
    rooms = [(late - early) // weight for early, late, weight in zip([0] + upto, upto, weights(house))]
    return House(house.bases(), rooms)

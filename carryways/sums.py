"""Two houses of the same bases together: what both rows come to, and which worths one can pay to the other."""

from carryways.checks import are_counts, are_counts_within, is_just, is_tuple_of, is_whole
from carryways.classes import counts_carried
from carryways.counting import links_of_worth
from carryways.errors import InvalidNumber, InvalidRooms
from carryways.holding import all_held, bars_against_worth, next_held, row_of_worth
from carryways.houses import House, check_like_houses, check_row
from carryways.pricing import boxes_of, carries_of_least, no_dues
from carryways.rows import weighed
from carryways.wishes import added, is_meeting_row, less, meeting_row


def check_rows(one, other, first, second):
    """Raises InvalidHouse, one by one, Unlike, then InvalidRow, one by one, unless these are two houses and rows."""
    check_like_houses(one, other)
    check_row(one, first)
    check_row(other, second)


def added_house(one, other):
    """The house of the same bases whose rooms are those of both houses together."""
    check_like_houses(one, other)
    return House(one.bases(), added(one.rooms(), other.rooms()))


def added_row(one, other, first, second):
    """The row of the added house that has the things of both rows."""
    check_rows(one, other, first, second)
    return added(first, second)


def wish_of_rooms(one, other, first, second, rooms):
    """The wish of the added house for rows within rooms, behind all checks."""
    check_rows(one, other, first, second)
    if not are_counts(rooms, one.places()):
        raise InvalidRooms(rooms)
    return [(0, min(room, held)) for room, held in zip(rooms, added_house(one, other).rooms())]


def can_be_brought(one, other, first, second, rooms):
    """Whether deeds in the added house lead from the added row to one with at most so many things at each place."""
    return brought_row(one, other, first, second, rooms) is not None


def brought_row(one, other, first, second, rooms):
    """A row within rooms to which deeds in the added house lead from the added row, None if there is none."""
    wish = wish_of_rooms(one, other, first, second, rooms)
    return meeting_row(added_house(one, other), added(first, second), wish)


def is_brought_row(one, other, first, second, rooms, value):
    """Whether any object is a row within rooms to which deeds in the added house lead from the added row."""
    wish = wish_of_rooms(one, other, first, second, rooms)
    return is_meeting_row(added_house(one, other), added(first, second), wish, value)


def check_all(one, other, first, second, worth):
    """Raises what the checks of the rows do, then InvalidNumber unless this is a whole number."""
    check_rows(one, other, first, second)
    if not is_whole(worth):
        raise InvalidNumber(worth)


# What is given, with what the other one keeps, is a row of the house of both rows: it has the worth that is paid and
# the second row's together. So payments are the rows of that worth, each split in two.


def house_of_rows(house, first, second):
    """The house with just the room that two rows take together."""
    return House(house.bases(), added(first, second))


def payment_of(second, together):
    """The payment in which just so much is given and kept together, the same thing never given and given back."""
    nets = less(together, second)
    return ([max(0, net) for net in nets], [max(0, -net) for net in nets])


def can_pay(one, other, first, second, worth):
    """Whether there is a payment of a worth."""
    return payment(one, other, first, second, worth) is not None


def payment(one, other, first, second, worth):
    """A payment of a worth, None if there is none."""
    check_all(one, other, first, second, worth)
    together = row_of_worth(house_of_rows(one, first, second), worth + weighed(one, second))
    return payment_of(second, together) if together is not None else None


def is_payment(one, other, first, second, worth, value):
    """Whether any object is a payment of a worth."""
    check_all(one, other, first, second, worth)
    if not is_tuple_of(value, 2):
        return False
    given, back = value
    if not are_counts_within(given, first) or not are_counts_within(back, second):
        return False
    return weighed(one, given) - weighed(one, back) == worth


def bars_against_payment(one, first, second, worth):
    """The list of the bars against a payment of a worth."""
    bars = bars_against_worth(house_of_rows(one, first, second), worth + weighed(one, second))
    # What is below all that is there, or above it, is one bar here; the others name a place.
    return [("all",) if len(bar) == 1 else bar for bar in bars]


def payment_bar(one, other, first, second, worth):
    """A bar against a payment of a worth, None if there is a payment."""
    check_all(one, other, first, second, worth)
    bars = bars_against_payment(one, first, second, worth)
    return bars[0] if bars != [] else None


def is_payment_bar(one, other, first, second, worth, value):
    """Whether any object is a bar against a payment of a worth."""
    check_all(one, other, first, second, worth)
    return any([is_just(value, bar) for bar in bars_against_payment(one, first, second, worth)])


def next_payable(one, other, first, second, worth):
    """The least worth at least so great that can be paid, None if there is none."""
    check_all(one, other, first, second, worth)
    back = weighed(one, second)
    held = next_held(house_of_rows(one, first, second), worth + back)
    return held - back if held is not None else None


def all_payable(one, other, first, second):
    """Whether every worth from minus the second row's worth to the first row's worth can be paid."""
    check_rows(one, other, first, second)
    return all_held(house_of_rows(one, first, second))


def things_handed(given, back):
    """How many things a payment has in all."""
    return sum(given) + sum(back)


def fewest_handed(one, other, first, second, worth):
    """The least number of things that a payment of a worth has in all, None if there is none."""
    found = fewest_payment(one, other, first, second, worth)
    if found is None:
        return None
    given, back = found
    return things_handed(given, back)


def fewest_payment(one, other, first, second, worth):
    """A payment of a worth with the fewest things in all, None if there is none."""
    check_all(one, other, first, second, worth)
    house = house_of_rows(one, first, second)
    together = row_of_worth(house, worth + weighed(one, second))
    if together is None:
        return None
    # What is more than the second row is given, what is less is given back: each thing away from it costs one.
    costs = [[abs(count - kept) for count in range(room + 1)] for room, kept in zip(house.rooms(), second)]
    boxes = boxes_of(house, together, links_of_worth(house, together), costs, no_dues(house))
    return payment_of(second, counts_carried(house, together, carries_of_least(boxes)))


def is_fewest_payment(one, other, first, second, worth, value):
    """Whether any object is a payment of a worth with the fewest things in all."""
    fewest = fewest_handed(one, other, first, second, worth)
    if not is_payment(one, other, first, second, worth, value):
        return False
    given, back = value
    return things_handed(given, back) == fewest

"""What the tests share: small houses, wrong values of each kind, and the check of the errors of a function."""

from itertools import product

from carryways.errors import Apart, CarryError, InvalidHouse, InvalidPlace, InvalidRow
from carryways.houses import House
from carryways.yard import Yard


def loose():
    """A house without a stiff place."""
    return House([3, 2], [4, 3, 2])


def tight():
    """A house with two stiff places."""
    return House([2, 3, 2], [3, 1, 1, 2])


# One place, no room at all, rooms of 0 between others, stiff places, and rooms just at the base.
SMALL = [
    ([], [0]),
    ([], [5]),
    ([2], [0, 0]),
    ([2], [2, 1]),
    ([3], [2, 4]),
    ([5], [4, 0]),
    ([3, 2], [4, 3, 2]),
    ([2, 2], [4, 0, 3]),
    ([2, 3], [0, 3, 1]),
    ([2, 3, 2], [3, 1, 1, 2]),
    ([2, 2, 2], [2, 2, 2, 2]),
]


def small_houses():
    """All small houses, made anew."""
    return [House(bases, rooms) for bases, rooms in SMALL]


def rows_of(house):
    """The ascending list of ALL rows of a house, by going through them."""
    return [list(row) for row in product(*[range(room + 1) for room in house.rooms()])]


def odd_objects():
    """Objects that are no number, no list and no tuple of any use."""
    yard = Yard(loose())
    return [
        None, True, False, "", "up", "a\tb\n", {}, {0: 1}, {"a": [1]}, {(1, ("a", None)): {yard: True}}, loose(),
        CarryError(), InvalidRow([1]), yard,
    ]


def no_yards():
    """Objects that are no yard."""
    return [value for value in odd_objects() if not isinstance(value, Yard)] + [0, 1, [], (), Yard, [Yard(loose())]]


def wrong_houses():
    return odd_objects() + [0, 7, -1, [], (), [[3, 2], [4, 3, 2]], ([3, 2], [4, 3, 2])]


def no_houses():
    """Objects that are no house."""
    return [value for value in wrong_houses() if not isinstance(value, House)]


def wrong_bases():
    """Objects that are no list of bases."""
    return odd_objects() + [
        3, -1, (), (3, 2), [1, 2], [3, 1], [0, 2], [3, -2], [True, 2], [3, False], [3, None], ["3", 2], [[3], 2],
        [(3,), 2], [3, {}], [3, loose()], {3: 2},
    ]


def wrong_base():
    """Objects that are no single base."""
    return odd_objects() + [1, 0, -1, -2, [], [2], (2,), [3, 2], "2"]


def wrong_rooms():
    """Objects that are no rooms of a house with two bases."""
    return odd_objects() + [
        3, -1, (), (4, 3, 2), [], [4], [4, 3], [4, 3, 2, 1], [-1, 3, 2], [4, 3, -1], [True, 3, 2], [4, False, 2],
        [4, 3, None], ["4", 3, 2], [[4], 3, 2], [(4,), 3, 2], [4, {}, 2], [4, loose(), 2], {4: 3, 3: 2, 2: 1},
    ]


def wrong_rows():
    """Objects that are no rows of the house `loose`."""
    return wrong_rooms() + [[5, 0, 0], [0, 4, 0], [0, 0, 3], [5, 4, 3], [0, 0, 10 ** 20]]


def wrong_counts():
    """Objects that are no count."""
    return odd_objects() + [-1, -10 ** 20, [], [1], (1,), (), "1"]


def wrong_places():
    """Objects that are no place of the house `loose`."""
    return wrong_counts() + [3, 4, 10 ** 20]


def wrong_deeds():
    """Objects that are no deed of the house `loose`."""
    return odd_objects() + [
        0, 1, [], (), ["up", 0], ["down", 1], ("up",), (0,), ("up", 0, 0), (0, "up"), ("Up", 0), ("", 0), (None, 0),
        (True, 0), (("up",), 0), (["up"], 0), ("up", 2), ("down", 2), ("up", 3), ("up", -1), ("down", -1),
        ("up", True), ("down", False), ("up", None), ("up", "0"), ("up", [0]), (loose(), 0), ("up", loose()),
        ("up", 10 ** 20), "up 0",
    ]


def wrong_chains():
    """Objects that are no chain from [4, 1, 1] in the house `loose`."""
    return odd_objects() + [
        0, 1, (), (("up", 0),), ("up", 0), ["up", 0], [None], [[]], [["up", 0]], ["up"], [("up", 1)], [("down", 0)],
        [("up", 0), ("up", 0)], [("up", 0), ("up", 1), ("up", 0)], [("up", 0), ("up", 2)], [("up", 0), None],
        [("up", 2)], [("up", -1)], [("up", True)], [("down", 1), ("down", 1)], {("up", 0): 1},
        [("up", 0), ("up", False)],
    ]


def wrong_numbers():
    """Objects that are no whole number."""
    return [value for value in wrong_counts() if value not in (-1, -10 ** 20) or isinstance(value, bool)]


def wrong_carries():
    """Objects that are no carries of the house `loose`."""
    return odd_objects() + [
        0, 1, (), (0, 0), [], [0], [0, 0, 0], [True, 0], [0, False], [0, None], ["0", 0], [[0], 0], [0, (0,)],
        [0, loose()], {0: 0, 1: 0},
    ]


def wrong_worths():
    """Objects that are no part worths of the house `tight`."""
    carries = [value for value in wrong_carries() if value != [0, 0, 0]]
    return carries + [(0, 0, 0), [0, 0, 0, 0], [0, -1, 0], [True, 0, 0], [0, False, 0], [0, 0, None], [0, 0]]


def wrong_wishes():
    """Objects that are no wish of the house `loose`."""
    return odd_objects() + [
        0, 1, (), [], [(0, 4)], [(0, 4), (0, 3)], [(0, 4), (0, 3), (0, 2), (0, 1)], ((0, 4), (0, 3), (0, 2)),
        [(0, 5), (0, 3), (0, 2)], [(0, 4), (0, 3), (0, 3)], [(-1, 4), (0, 3), (0, 2)], [(0, 4), (2, 1), (0, 2)],
        [[0, 4], (0, 3), (0, 2)], [(0, 4), (0, 3), [0, 2]], [(0, 4), (False, 3), (0, 2)], [(0, 4), (0, True), (0, 2)],
        [(0, 4), (0, 3), (0,)], [(0, 4), (0, 3), (0, 1, 2)], [(0, 4), (0, 3), None], [(0, 4), (0, 3), 2],
        [(0, 4), (None, 3), (0, 2)], [("0", 4), (0, 3), (0, 2)], [((0,), 4), (0, 3), (0, 2)], [4, 3, 2],
        {0: (0, 4), 1: (0, 3), 2: (0, 2)}, [(0, 4), loose(), (0, 2)],
    ]


def wrong_steps():
    """Objects that are no step from the least to the greatest row of the class of [4, 1, 1] in `loose`."""
    return odd_objects() + [
        0, 1, (), [], [0, 1], (0,), (0, 1, 1), (0, 0), (0, 2), (1, 3), (2, 1), (-1, 1), (1, -1), (False, 1), (0, True),
        (True, 1), (None, 1), (0, None), ("0", 1), ((0,), 1), (0, (1,)), ([0], 1), (loose(), 1), [(0, 1)],
        (10 ** 20, 1), (0, 10 ** 20),
    ]


def bent(value, parts):
    """A list or tuple with a part in the place of each of its own, one by one, for each of some parts."""
    kind = list if isinstance(value, list) else tuple
    return [kind([*value[:at], part, *value[at + 1:]]) for at in range(len(value)) for part in parts]


def wrong_lists_of_rows():
    """Objects that are no list, not empty, of rows of the house `loose`."""
    rows = [[4, 1, 1], [1, 0, 2], [4, 3, 0]]
    return odd_objects() + [
        0, 1, (), [], [[]], [None], rows[0], tuple(rows), [(4, 1, 1)], {0: rows[0]}, [rows], [rows[0], rows],
    ] + [[rows[0], wrong] for wrong in wrong_rows()] + [[wrong] + rows[1:] for wrong in wrong_rows()[::3]]


def wrong_prices():
    """Objects that are no prices of the house `loose`."""
    right = [[0, 1, 2, 3, 4], [0, 1, 2, 3], [0, 1, 2]]
    parts = [None, True, "0", [0], (0,), {}, loose()]
    found = [0, 1, (), [], right[:2], right + [[0]], tuple(right), {0: right[0]}, [0, 1, 2], [4, 3, 2], right[::-1]]
    found += bent(right, [None, True, 0, "", (), [], {}, (0, 1, 2), [0, 1], [0, 1, 2, 3, 4, 5], loose()])
    for at, costs in enumerate(right):
        found += [right[:at] + [wrong] + right[at + 1:] for wrong in bent(costs, parts) + [tuple(costs), costs[1:]]]
    return odd_objects() + found


def wrong_dues():
    """Objects that are no dues of the house `loose`."""
    return wrong_carries() + [[-1, 0], [0, -1]]


def wrong_event():
    """Objects that are no event of the house `loose`."""
    return odd_objects() + [
        0, 1, (), [], [0, 1], (0,), (0, 1, 1), (0, 0), (2, 0), (3, 1), (-1, 1), (False, 1), (0, True), (True, 1),
        (None, 1), (0, None), ("0", 1), (0, "1"), ((0,), 1), (0, (1,)), ([0], 1), (loose(), 1), [(0, 1)],
        (10 ** 20, 1), {0: 1}, (0, False), (0, {}),
    ]


def wrong_events():
    """Objects that are no events of the house `loose`."""
    events = [(0, 3), (2, 1), (0, -2)]
    found = [0, 1, (), tuple(events), (0, 3), [0, 3], {0: (0, 3)}, [events], [[0, 3]], [events[0], [2, 1]]]
    return odd_objects() + found + [[wrong] for wrong in wrong_event()] + bent(events, wrong_event()[::3])


def snapshot(value):
    """A value, with all in it, in a form that stays when the value is changed, and that tells 1 from True."""
    kind = type(value)
    if kind is list or kind is tuple:
        return (kind, tuple(map(snapshot, value)))
    if kind is dict:
        return (kind, tuple((snapshot(key), snapshot(part)) for key, part in value.items()))
    if kind is House:
        return (kind, tuple(value.bases()), tuple(value.rooms()))
    if isinstance(value, CarryError):
        return (kind, snapshot(vars(value)))
    return (kind, value)


class Argument:
    """A parameter of a function: its name, a right value, the error for a wrong one, and wrong ones of each kind."""

    def __init__(self, name, good, error, wrong):
        self.name = name
        self.good = good
        self.error = error
        self.wrong = wrong


def a_house(good, name="house"):
    return Argument(name, good, InvalidHouse, no_houses())


def a_row(good, name="row"):
    return Argument(name, good, InvalidRow, wrong_rows())


def a_place(good, name="place"):
    return Argument(name, good, InvalidPlace, wrong_places())


def expect_error(test, error, value, function, *args, **named):
    """The call raises just this error, its field is the very object, and no argument is changed."""
    ahead = snapshot([list(args), named])
    with test.assertRaises(CarryError) as caught:
        function(*args, **named)
    test.assertEqual(type(caught.exception).__name__, error.__name__)
    test.assertIs(caught.exception.value, value)
    test.assertEqual(snapshot([list(args), named]), ahead)


def check_wrong_arguments(test, function, *arguments):
    """Each wrong value of each argument, alone and with each wrong value of the later ones, between right calls."""
    good = [argument.good for argument in arguments]
    told = snapshot(function(*good))
    for at, argument in enumerate(arguments):
        for wrong in argument.wrong:
            args = good[:at] + [wrong] + good[at + 1:]
            expect_error(test, argument.error, wrong, function, *args)
            named = {other.name: value for other, value in zip(arguments, args)}
            expect_error(test, argument.error, wrong, function, **named)
            # The earlier argument is judged first, so a later wrong one must not matter.
            for later in range(at + 1, len(arguments)):
                for also in arguments[later].wrong:
                    both = args[:later] + [also] + args[later + 1:]
                    expect_error(test, argument.error, wrong, function, *both)
        rest = [other.wrong[0] for other in arguments[at:]]
        expect_error(test, argument.error, rest[0], function, *(good[:at] + rest))
    test.assertEqual(snapshot(function(**{argument.name: argument.good for argument in arguments})), told)


def check_judge(test, function, values, *arguments):
    """A judge: whatever the last argument is, the others are checked as elsewhere."""
    for value in values:
        def with_value(*args, **named):
            return function(*args, **named, value=value)
        check_wrong_arguments(test, with_value, *arguments)


def check_apart(test, function, house, one, other, *rest):
    """Apart with the very row, whatever comes behind it."""
    expect_error(test, Apart, other, function, house, one, other, *rest)
    named = list(house.rooms())
    named[0] += 1
    for wrong in (named, None, tuple(one)):
        expect_error(test, InvalidRow, wrong, function, house, wrong, other, *rest)
        expect_error(test, InvalidRow, wrong, function, house, one, wrong, *rest)


def kinds_changed(value):
    """Things that Python may take for a value, or that look like it, and that are of other kinds."""
    found = []
    if isinstance(value, int) and not isinstance(value, bool):
        found += [str(value), [value], (value,)] + [odd for odd in (True, False) if odd == value]
    if isinstance(value, str):
        found += [value + " ", value[1:], [value], (value,), None]
    if isinstance(value, (list, tuple)):
        kind, other = (list, tuple) if isinstance(value, list) else (tuple, list)
        found += [other(value), {at: part for at, part in enumerate(value)}]
        for at, part in enumerate(value):
            found += [kind([*value[:at], odd, *value[at + 1:]]) for odd in kinds_changed(part) + [None, {}]]
    return found


def check_refuses_objects(test, judge, good, *args, right=()):
    """A judge takes a value, and neither odd objects nor the value with a part of another kind (but what is right)."""
    test.assertIs(judge(*args, good), True)
    for value in odd_objects() + [0, 1, -1, [], (), [[]], [()], [None]] + kinds_changed(good):
        if snapshot(value) not in [snapshot(one) for one in (good, *right)]:
            test.assertIs(check_leaves_arguments(test, judge, *args, value), False, value)


def check_leaves_arguments(test, function, *args):
    """A call changes nothing that was passed; returns what it gives."""
    ahead = snapshot(list(args))
    told = function(*args)
    test.assertEqual(snapshot(list(args)), ahead)
    return told


def spoil(value):
    """Changes each list and dictionary within a value that was returned."""
    if isinstance(value, (list, tuple)):
        for part in value:
            spoil(part)
    if isinstance(value, list):
        value.append("spoilt")
        value[0] = "spoilt"
    if isinstance(value, dict):
        for key in list(value):
            spoil(value[key])
            value[key] = "spoilt"
        value["spoilt"] = 1


def check_fresh(test, function, *args):
    """What is returned may be changed: neither the arguments nor what is returned later change by it."""
    ahead = snapshot(list(args))
    first = function(*args)
    told = snapshot(first)
    spoil(first)
    test.assertEqual(snapshot(list(args)), ahead)
    test.assertEqual(snapshot(function(*args)), told)

"""The answers by going through rows and single deeds, one by one: what the tests hold the program's answers against."""

from itertools import permutations, product

from carryways.houses import House
from tests.support import rows_of


def weights_by_hand(bases):
    """What one thing is worth, place by place."""
    weights = [1]
    for base in bases:
        weights.append(weights[-1] * base)
    return weights


def worth(house, row):
    return sum(count * weight for count, weight in zip(row, weights_by_hand(house.bases())))


def deeds_of(house):
    """All deeds of a house, ascending."""
    return sorted((word, place) for word in ("up", "down") for place in range(house.places() - 1))


def by_hand(house, row, deed):
    """The row that comes by a deed, None if it is not let."""
    word, place = deed
    base, came = house.bases()[place], list(row)
    if word == "up":
        came[place], came[place + 1] = came[place] - base, came[place + 1] + 1
    else:
        came[place], came[place + 1] = came[place] + base, came[place + 1] - 1
    fits = all(0 <= count <= room for count, room in zip(came, house.rooms()))
    return came if fits else None


def let_by_hand(house, row):
    """The deeds that are let at a row, each with the row that comes."""
    came = {deed: by_hand(house, row, deed) for deed in deeds_of(house)}
    return {deed: late for deed, late in came.items() if late is not None}


def ways_from(house, row, meets=lambda late: True):
    """All rows joined with a row, as tuples, each with the tuple of the fewest deeds, how many chains have so few, and
    the carries; by rows that meet something alone."""
    found = {tuple(row): (0, 1, (0,) * (house.places() - 1))}
    layer = [list(row)]
    while layer:
        later = {}
        for early in layer:
            length, many, carries = found[tuple(early)]
            for (word, place), late in let_by_hand(house, early).items():
                if meets(late) and tuple(late) not in found:
                    moved = list(carries)
                    moved[place] += 1 if word == "up" else -1
                    before = later.get(tuple(late), (0, 0, 0))[1]
                    later[tuple(late)] = (length + 1, many + before, tuple(moved))
        found.update(later)
        layer = [list(late) for late in later]
    return found


def class_by_hand(house, row):
    """The ascending list of the rows of the class of a row."""
    return [list(late) for late in sorted(ways_from(house, row))]


def classes_by_hand(house):
    """The list of all classes of a house, each the ascending list of its rows."""
    found, seen = [], set()
    for row in rows_of(house):
        if tuple(row) not in seen:
            found.append(class_by_hand(house, row))
            seen.update(tuple(late) for late in found[-1])
    return found


def shortest_chains_by_hand(house, one, other):
    """All shortest chains from the one row to the other."""
    left = ways_from(house, other)
    if one == other:
        return [[]]
    return [
        [deed] + rest for deed, late in let_by_hand(house, one).items()
        if left[tuple(late)][0] < left[tuple(one)][0] for rest in shortest_chains_by_hand(house, late, other)]


def is_round_by_hand(house, row, deeds):
    """Whether deeds at unlike places, ascending, are a chain from a row in whatever order."""
    for order in permutations(deeds):
        late = row
        for deed in order:
            late = by_hand(house, late, deed)
            if late is None:
                return False
    return True


def rounds_at(house, row):
    """All rounds at a row, each with the row behind it."""
    found = []
    for words in product(("", "up", "down"), repeat=house.places() - 1):
        deeds = [(word, place) for place, word in enumerate(words) if word]
        if deeds and is_round_by_hand(house, row, deeds):
            late = row
            for deed in deeds:
                late = by_hand(house, late, deed)
            found.append((deeds, late))
    return found


def rounds_from(house, row):
    """All rows joined with a row, as tuples, each with the fewest rounds of any deeds that lead to it."""
    found = {tuple(row): 0}
    layer = [row]
    while layer:
        later = {}
        for early in layer:
            for _, late in rounds_at(house, early):
                if tuple(late) not in found:
                    later[tuple(late)] = found[tuple(early)] + 1
        found.update(later)
        layer = [list(late) for late in later]
    return found


def parts_by_hand(house):
    """The tuples (first, last) of places between which deeds can be let at all."""
    found, first = [], 0
    for place in range(house.places()):
        if place == house.places() - 1 or house.rooms()[place] < house.bases()[place]:
            found.append((first, place))
            first = place + 1
    return found


def part_worths_by_hand(house, row):
    """What each part holds, weighed from its own first place."""
    weights = weights_by_hand(house.bases())
    return [
        sum(row[place] * weights[place] for place in range(first, last + 1)) // weights[first]
        for first, last in parts_by_hand(house)]


def houses_like(bases, most):
    """All houses with some bases whose rooms are at most so great."""
    return [House(list(bases), list(rooms)) for rooms in product(range(most + 1), repeat=len(bases) + 1)]


def many_small_houses():
    """Houses of few rows of all kinds: loose and stiff places anywhere, rooms of 0, one place alone."""
    found = houses_like([], 3) + houses_like([2], 4) + houses_like([3], 4)
    for bases in ([2, 2], [2, 3], [3, 2]):
        found += [House(bases, [first, middle, last]) for first in (0, 1, 2, 3, 5) for middle in (0, 1, 2, 3, 4)
                  for last in (0, 1, 2)]
    for rooms in ([2, 2, 2, 2], [3, 1, 2, 1], [1, 2, 3, 1], [4, 2, 0, 2], [3, 3, 1, 1], [0, 0, 2, 1], [5, 3, 2, 1]):
        found += [House([2, 2, 2], rooms), House([2, 3, 2], rooms)]
    return found

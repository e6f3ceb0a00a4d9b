"""Tables of carries, place by place: which numbers of carries stand beside which on the way from a row.

*Limits* are told place by place, as the tuple of the least and the greatest count there; *spans* for each place but
the last, as the tuple of the least and the greatest carries from the row. *Links* have for each place a dictionary
from each number of carries out of it to the range of those into it with which the count stays within its limits.
Nothing goes into the first place, nor out of the last one.
"""


def whole_limits(house):
    """The limits that all rows of the house keep."""
    return [(0, room) for room in house.rooms()]


def links_of(house, row, limits, spans):
    """The links of all carries within spans that lead from a row to one within limits."""
    bases = house.bases() + [0]
    outs = spans + [(0, 0)]
    links = []
    # An empty range, the first number above the last one, stands for carries that fit with none.
    least_in, greatest_in = 0, 0
    for base, count, (low, high), (least, greatest) in zip(bases, row, limits, outs):
        link = {}
        for out in range(least, greatest + 1):
            left = count - base * out
            link[out] = (max(least_in, low - left), min(greatest_in, high - left))
        links.append(link)
        least_in, greatest_in = least, greatest
    return links


def best_carries(links, sign):
    """The carries that are, without their signs, together as many (sign 1) or as few (sign -1) as can be."""
    totals = {0: 0}
    choices = []
    for link in links:
        later = {}
        choice = {}
        for out, (first, last) in link.items():
            ways = [(totals[into], into) for into in range(first, last + 1) if into in totals]
            if ways != []:
                best, best_into = max(ways)
                later[out] = best + sign * abs(out)
                choice[out] = best_into
        totals = later
        choices.append(choice)
    return carries_back(choices)


def carries_back(choices):
    """The carries that are found from the last place back, when each number out of a place has one into it."""
    found = [0]
    for choice in choices[::-1]:
        found.append(choice[found[-1]])
    # Nothing goes out of the last place or into the first one; both stand at the ends.
    return found[1:-1][::-1]


def ways_on(links):
    """The list of dictionaries from carries to how many ways lead on: into the first place, then out of each place."""
    ways = [{0: 1}]
    for link in links[::-1]:
        layer = {}
        for out, (first, last) in link.items():
            for into in range(first, last + 1):
                layer[into] = layer.get(into, 0) + ways[-1].get(out, 0)
        ways.append(layer)
    return ways[::-1]


def many_ways(links):
    """How many carries there are in all."""
    return ways_on(links)[0].get(0, 0)


def all_carries(links):
    """The list of all carries, those with the most out of the first places ahead; for tables of few alone."""
    found = [[0]]
    for link in links:
        outs = sorted(link, reverse=True)
        found = [early + [out] for early in found for out in outs if link[out][0] <= early[-1] <= link[out][1]]
    # Nothing goes into the first place or out of the last one; both stand at the ends.
    return [outs[1:-1] for outs in found]

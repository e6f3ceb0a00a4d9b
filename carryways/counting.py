"""How many rows of a house have a worth, told by tables of carries."""

from carryways.carrying import links_of, many_ways, whole_limits
from carryways.classes import carries_between, greatest_first
from carryways.ends import turned
from carryways.houses import weights, whole_worth
from carryways.rows import weighed


def least_of_worth(house, worth):
    """The row that has a worth, held by some row, with the most things."""
    # What is not there has the fewest things exactly if what is there has the most.
    return turned(house, greatest_first(house, whole_worth(house) - worth))


def links_of_worth(house, greatest):
    """The links of all carries from the row with the fewest things to the rows of its worth."""
    # Also across stiff places: two rows of one worth are always some carries away from each other.
    least = least_of_worth(house, weighed(house, greatest))
    spans = [(out, 0) for out in carries_between(house, greatest, least)]
    return links_of(house, greatest, whole_limits(house), spans)


def many_rows_of_worth(house, worth):
    """How many rows of the house have a worth, any whole number."""
    greatest = greatest_first(house, worth) if worth >= 0 else None
    return many_ways(links_of_worth(house, greatest)) if greatest is not None else 0


def with_place(many, room, weight):
    """How often each worth comes, the list by worths, with one place more, where so often each comes without it."""
    found = []
    for worth in range(len(many) + room * weight):
        total = many[worth] if worth < len(many) else 0
        # One thing less at the new place: what comes so, but for what would take one more than it has room for.
        if worth >= weight:
            total += found[worth - weight]
        beyond = worth - (room + 1) * weight
        if beyond >= 0:
            total -= many[beyond]
        found.append(total)
    return found


def many_of_each_worth(house):
    """The list, by the worths from 0 on, of how many rows of the house have them."""
    many = [1]
    for room, weight in zip(house.rooms(), weights(house)):
        many = with_place(many, room, weight)
    return many


def running_sums(layer, size):
    """The list of the sums, number by number, of the lists of a dictionary from 0, 1, .. to lists, ahead of each."""
    sums = [[0] * size]
    for at in range(len(layer)):
        sums.append([total + many for total, many in zip(sums[-1], layer[at])])
    return sums


def layers_of_losses(house, links, size):
    """The layers, into the first place, then out of each one, of how many ways lead there, by the things lost.

    The links are those from the row with the most things, so carries are counted from 0 on, and each of them loses
    things: as many as the base says, but one.
    """
    layers = [{0: [1] + [0] * (size - 1)}]
    for base, link in zip(house.bases() + [1], links):
        sums = running_sums(layers[-1], size)
        layer = {}
        for out, (first, last) in link.items():
            lost = [0] * ((base - 1) * out)
            come = [0] * size
            if first <= last:
                come = [late - early for early, late in zip(sums[first], sums[last + 1])]
            layer[out] = (lost + come)[:size]
        layers.append(layer)
    return layers


def carries_by_loss(house, links, layers, lost):
    """The carries of a way that loses so many things; there must be one."""
    outs = [0]
    bases = house.bases() + [1]
    left = lost
    for place in range(house.places() - 1, -1, -1):
        left = left - (bases[place] - 1) * outs[-1]
        first, last = links[place][outs[-1]]
        outs.append([into for into in range(first, last + 1) if layers[place][into][left] > 0][0])
    return outs[1:-1][::-1]

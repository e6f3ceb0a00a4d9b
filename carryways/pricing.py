"""Tables of what the rows of a table of carries cost, place by place.

*Layers* stand into the first place, then out of each one: dictionaries from carries there to the least that the places
up to there cost. *Prices* have for each place the list of what 0, 1, .. things cost there, *dues* for each place but
the last what each deed there costs.
"""

from carryways.carrying import carries_back


def no_dues(house):
    """The dues by which deeds cost nothing."""
    return [0] * (house.places() - 1)


def boxes_of(house, row, links, prices, dues):
    """The list, place by place, of what the table needs of it: link, count, base, costs and due."""
    # Nothing goes out of the last place.
    return list(zip(links, row, house.bases() + [0], prices, dues + [0]))


def ways_into(early, box, out):
    """The ascending list of the tuples of what a place costs, with those below it, and the carries into it."""
    link, count, base, costs, due = box
    first, last = link[out]
    left = count - base * out
    intos = [into for into in range(first, last + 1) if into in early]
    return sorted([(early[into] + costs[left + into] + due * abs(out), into) for into in intos])


def layers_of(boxes):
    """The layers of the least costs."""
    layers = [{0: 0}]
    for box in boxes:
        layer = {}
        for out in box[0]:
            ways = ways_into(layers[-1], box, out)
            if ways != []:
                layer[out] = ways[0][0]
        layers.append(layer)
    return layers


def least_cost(boxes):
    """The least cost of all."""
    return layers_of(boxes)[-1][0]


def carries_of_least(boxes):
    """The carries of a way of least cost."""
    layers = layers_of(boxes)
    choices = []
    for box, early, late in zip(boxes, layers, layers[1:]):
        choices.append({out: ways_into(early, box, out)[0][1] for out in late})
    return carries_back(choices)


def many_of_least(boxes):
    """How many ways of least cost there are."""
    many = {0: 1}
    layers = layers_of(boxes)
    for box, early, late in zip(boxes, layers, layers[1:]):
        later = {}
        for out, least in late.items():
            later[out] = sum([many[into] for cost, into in ways_into(early, box, out) if cost == least])
        many = later
    return many[0]

"""All questions of the interface, asked with right arguments of one house, for the tests of the whole program."""

from carryways import (
    chains, changes, classes, counts, ends, events, holding, houses, middles, papers, prices, rows, scripts, steps,
    sums,
    wishes,
)
from carryways.houses import House
from carryways.yard import Yard, replayed

DAY = [("put", [0, 0, 0]), ("lift", 0), ("try", [("take", 0)]), ("come", 0, 0, 1), ("row_there", 0)]


def questions(house, row, other):
    """The list of tuples of a function and its arguments; both rows are of one class, of a house of three places."""
    rooms, bases = house.rooms(), house.bases()
    wide = House(bases, [room + 1 for room in rooms])
    wish = [(0, room) for room in rooms[:-1]] + [(other[-1], other[-1])]
    price = [[(3 * many + place) % 7 for many in range(room + 1)] for place, room in enumerate(rooms)]
    late = [[many * many for many in range(room + 1)] for room in rooms]
    some, coming = [row, other, row], [(0, 1), (0, -1), (1, 1), (1, -1)]
    chain = chains.shortest_chain(house, row, other)
    stepped = steps.steps_of(house, row)
    place = min(1, house.places() - 2)
    last = house.places() - 1
    worth = rows.worth_of(house, row)
    least = ends.least_row(house, row)
    found = [(function, house) for function in (
        houses.weights, houses.held_up_to, houses.whole_worth, houses.many_rows, classes.stiff_places, classes.parts,
        classes.house_of_parts, counts.many_classes, counts.many_alone, counts.many_deeds, counts.greatest_size,
        counts.crowded_row, holding.all_held, holding.gap_of, holding.many_held, holding.worth_decides,
        holding.two_of_worth, holding.marks_of, holding.least_alike, papers.house_text, House.bases, House.rooms)]
    found += [(function, house, row) for function in (
        houses.number_of, rows.is_row, rows.worth_of, rows.many_things, rows.deeds_let, rows.rows_beside, rows.is_alone,
        classes.part_worths, classes.coarse_row, ends.carry_ranges, ends.least_row, ends.greatest_row,
        ends.farthest_deeds, ends.most_deeds, ends.farthest, ends.dead_places, ends.thing_range, wishes.rigid_places,
        steps.steps_of, steps.taken, steps.climb, steps.many_climbs, steps.longest_needs, counts.class_place,
        counts.class_size, counts.place_in_class, counts.by_things, counts.is_crowded_row, changes.upside_down)]
    found += [(function, house, row, other) for function in (
        rows.deed_between, rows.first_unlike, classes.joined, classes.why_apart, classes.carries, classes.lesser_of,
        classes.greater_of, classes.closest_parts, ends.is_farthest, chains.fewest_deeds, chains.shortest_chain,
        chains.first_deeds, chains.many_shortest, chains.steps_between, chains.fewest_rounds, chains.rounds_for,
        chains.moments, chains.neck, steps.is_below, steps.steps_above, changes.must_free, changes.widening)]
    found += [(function, house, row, wish) for function in (
        wishes.meets, wishes.is_met, wishes.barring_places, wishes.barring_place, wishes.meeting_row,
        wishes.meeting_ends,
        wishes.many_lots, wishes.deeds_to, wishes.nearest)]
    found += [(function, house, some) for function in (
        middles.middle, middles.middle_ends, middles.least_sum, middles.many_middles, middles.center)]
    found += [(function, house, row, price) for function in (
        prices.price_of, prices.least_price, prices.cheapest, prices.many_cheapest, prices.bounds_of,
        prices.prices_alike,
        prices.unlike_deed)]
    found += [(function, house, row, coming) for function in (
        events.is_served, events.first_unserved, events.worths_along, events.run_of, events.why_unserved,
        events.least_toll, events.run_of_least, events.many_orders, events.any_order, events.first_order,
        events.always_served, events.bad_lot)]
    found += [(function, house, wide, row, other) for function in (sums.added_row, sums.all_payable)]
    found += [(function, house, wide, row, other, worth // 2) for function in (
        sums.can_pay, sums.payment, sums.payment_bar, sums.next_payable, sums.fewest_handed, sums.fewest_payment)]
    found += [(function, house, worth + 1) for function in (
        holding.is_held, holding.row_of_worth, holding.why_not_held, holding.next_held, holding.last_held,
        holding.held_below, counts.rows_of_worth, counts.classes_of_worth, classes.greatest_first)]
    found += [(function, house, row, chain) for function in (
        rows.is_chain_from, rows.rows_on, rows.row_behind, rows.chain_back, rows.deeds_counted)]
    found += [(function, house, wide) for function in (
        houses.is_within, houses.lesser_house, houses.greater_house, holding.holds_alike, holding.unlike_worth,
        sums.added_house, changes.parts_within, changes.are_joined_still)]
    return found + [
        (houses.row_at, house, houses.number_of(house, row)), (houses.with_room, house, place, 3),
        (houses.stretch, house, place, last), (houses.set_behind, house, 2, wide), (houses.tightened, house, place),
        (rows.is_let, house, row, ("up", place)), (rows.same_up_to, house, row, other, place),
        (classes.is_why_apart, house, row, other, None), (classes.carried, house, row,
        classes.carries(house, row, other)),
        (classes.row_of_class, house, classes.part_worths(house, row)), (wishes.is_wish, house, wish),
        (wishes.wish_house, house, wish), (wishes.same_lot, house, other, other, wish),
        (wishes.held_at, house, row, place),
        (wishes.pairs_at, house, row, 0, last), (wishes.is_nearest, house, row, wish, other),
        (wishes.is_meeting_row, house, row, wish, other), (chains.is_chain, house, row, other, chain),
        (chains.is_shortest_chain, house, row, other, chain), (chains.is_round, house, row, chain[:1]),
        (chains.are_rounds, house, row, other, [[deed] for deed in chain]), (chains.is_neck, house, row, other, []),
        (steps.are_closed, house, row, []), (steps.row_by, house, row, stepped), (steps.is_climb, house, row, stepped),
        (steps.is_longest_needs, house, row, stepped[:1]), (counts.class_at, house, counts.class_place(house, row)),
        (counts.row_in_class, house, row, 0), (counts.row_of_things, house, row, sum(other)),
        (counts.is_row_of_things, house, row, sum(other), other), (holding.is_row_of_worth, house, worth, row),
        (holding.is_why_not_held, house, worth, ("above",)), (holding.worth_at, house, 1),
        (holding.is_two_of_worth, house, (row, other)), (middles.sum_of_deeds, house, some, least),
        (middles.is_middle, house, some, row), (middles.is_center, house, some, other),
        (prices.are_prices, house, late),
        (prices.is_cheapest, house, row, price, other),
        (prices.are_bounds, house, row, price, prices.bounds_of(house, row, price)),
        (prices.least_by, house, row, price, prices.bounds_of(house, row, price)),
        (prices.least_total, house, row, price, [1] * last), (prices.best_row, house, row, price, [1] * last),
        (prices.is_best_row, house, row, price, [1] * last, other), (prices.two_prices, house, row, price, late),
        (prices.is_unlike_deed, house, row, price, (row, ("up", 0))), (events.are_events, house, coming),
        (events.wish_of, house, (0, 1)), (events.is_run_of, house, row, coming, some),
        (events.is_why_unserved, house, row, coming, (0, 0)), (events.is_run_of_least, house, row, coming, some),
        (events.heights_of, house, row, []), (events.are_heights, house, row, [], events.heights_of(house, row, [])),
        (events.least_by, house, row, [], events.heights_of(house, row, [])),
        (events.is_served_so, house, row, coming, [1, 0, 3, 2]), (events.is_bad_lot, house, row, coming, ([0], 1)),
        (sums.can_be_brought, house, wide, row, other, rooms), (sums.brought_row, house, wide, row, other, rooms),
        (sums.is_brought_row, house, wide, row, other, rooms, row),
        (sums.is_payment, house, wide, row, other, 0, (row, row)),
        (sums.is_payment_bar, house, wide, row, other, 0, ("all",)),
        (sums.is_fewest_payment, house, wide, row, other, 0, ([0] * (last + 1), [0] * (last + 1))),
        (changes.with_rooms, house, wide.rooms()), (changes.freed, house, list(range(last))),
        (changes.classes_within, house, wide, row), (changes.longer, house, 2, 3), (changes.shorter, house, last),
        (changes.longer_row, house, row, 1), (changes.split_row, house, place, row),
        (changes.changed_by, house, [("longer", 2, 2), ("shorter", last)]),
        (changes.parts_then, house, [("longer", 2, 2), ("shorter", last)]),
        (scripts.end_of, house, DAY), (scripts.shortened, house, DAY), (scripts.script_text, DAY),
        (scripts.read_script, scripts.script_text(DAY)), (papers.read_house, papers.house_text(house)),
        (papers.rows_text, some), (papers.read_rows, papers.rows_text(some)), (papers.chain_text, chain),
        (papers.read_chain, papers.chain_text(chain)), (told_of_yard, house, row, other),
    ]


def told_of_yard(house, row, other):
    """What a yard tells behind some commands, and what playing on it says."""
    yard = Yard(house)
    yard.put(row)
    yard.aim(0, other)
    yard.put(other)
    told = [yard.row_there(0), yard.aim_there(0), yard.way(0), yard.alike_spots(1), yard.farthest_spots(),
        yard.record()]
    said = scripts.play(yard, [("take", 1), ("is_met", 0), ("undo",), ("try", [("lower", 0), ("row_there", 0)])])
    return told + [said, yard.record(), replayed(yard, [("take", 0)]).record(), yard.spots()]

"""The blocks of examples of the document: each line gives what stands below it."""

import unittest

HOUSES = """
from carryways.houses import House, held_up_to, is_within, lesser_house, many_rows, number_of, row_at, set_behind, stretch, tightened, weights, whole_worth, with_room
loose = House([3, 2], [4, 3, 2])
[weights(loose), held_up_to(loose), whole_worth(loose), many_rows(loose), row_at(loose, 37), number_of(loose, [4, 1, 1])]
# [[1, 3, 6], [4, 13, 25], 25, 60, [3, 0, 1], 52]
tight = House([2, 3, 2], [3, 1, 1, 2])
[tightened(loose, 1).rooms(), stretch(tight, 1, 3).bases(), set_behind(stretch(tight, 0, 1), 3, stretch(tight, 2, 3)) == tight, with_room(loose, 2, 0).rooms()]
# [[4, 1, 2], [3, 2], True, [4, 3, 0]]
[is_within(tightened(loose, 1), loose), is_within(tight, loose), lesser_house(loose, House([3, 2], [1, 9, 2])).rooms()]
# [True, False, [1, 3, 2]]
"""

ROWS = """
from carryways.houses import House
from carryways.rows import chain_back, deed_between, deeds_counted, deeds_let, done, is_alone, is_chain_from, is_let, many_things, row_behind, rows_beside, rows_on, same_up_to, worth_of
loose = House([3, 2], [4, 3, 2])
[worth_of(loose, [4, 1, 1]), many_things(loose, [4, 1, 1]), deeds_let(loose, [4, 1, 1]), is_let(loose, [4, 1, 1], ("up", 1)), done(loose, [4, 1, 1], ("up", 0))]
# [13, 6, [('down', 1), ('up', 0)], False, [1, 2, 1]]
ways = [("up", 1), ("up", 0), ("up", 1)]
[rows_on(loose, [4, 3, 0], ways), row_behind(loose, [4, 3, 0], ways), deeds_counted(loose, [4, 3, 0], ways), chain_back(loose, [4, 3, 0], ways)]
# [[[4, 3, 0], [4, 1, 1], [1, 2, 1], [1, 0, 2]], [1, 0, 2], [1, 2], [('down', 1), ('down', 0), ('down', 1)]]
[rows_beside(loose, [1, 2, 1]), deed_between(loose, [1, 2, 1], [4, 1, 1]), deed_between(loose, [4, 3, 0], [1, 0, 2]), is_chain_from(loose, [4, 3, 0], [("up", 0)]), is_alone(loose, [0, 0, 0]), same_up_to(loose, [4, 1, 1], [1, 2, 1], 1)]
# [[[1, 0, 2], [4, 1, 1]], ('down', 0), None, False, True, True]
"""

CLASSES = """
from carryways.classes import carried, carries, closest_parts, coarse_row, greater_of, greatest_first, house_of_parts, is_why_apart, joined, lesser_of, part_worths, parts, stiff_places
from carryways.houses import House
loose, tight = House([3, 2], [4, 3, 2]), House([2, 3, 2], [3, 1, 1, 2])
[parts(loose), stiff_places(tight), parts(tight), part_worths(tight, [3, 0, 1, 1]), coarse_row(tight, [1, 1, 1, 1]), house_of_parts(tight) == House([6, 2], [5, 1, 2])]
# [[(0, 2)], [1, 2], [(0, 1), (2, 2), (3, 3)], [3, 1, 1], [3, 1, 1], True]
[joined(tight, [3, 0, 1, 1], [1, 1, 1, 1]), joined(tight, [0, 0, 0, 1], [0, 0, 1, 0]), is_why_apart(tight, [0, 0, 0, 1], [0, 0, 1, 0], ((3, 3), 1, 0))]
# [True, False, True]
[carries(loose, [4, 1, 1], [1, 0, 2]), carries(loose, [4, 1, 1], [4, 3, 0]), carried(loose, [4, 1, 1], [1, 0]), carried(loose, [4, 1, 1], [2, 0])]
# [[1, 1], [0, -1], [1, 2, 1], None]
[lesser_of(loose, [1, 2, 1], [4, 3, 0]), greater_of(loose, [1, 2, 1], [4, 3, 0]), greatest_first(loose, 13), greatest_first(tight, 11), closest_parts(tight, [0, 0, 0, 1], [0, 0, 1, 0])]
# [[4, 3, 0], [1, 2, 1], [1, 0, 2], [3, 1, 1, 0], [0, 1, -1]]
"""

CHAINS = """
from carryways.chains import fewest_deeds, fewest_rounds, first_deeds, is_chain, is_neck, is_round, many_shortest, moments, rounds_for, shortest_chain, steps_between, waits_for
from carryways.houses import House
house = House([3, 2], [4, 3, 2])
[fewest_deeds(house, [4, 3, 0], [1, 0, 2]), shortest_chain(house, [4, 3, 0], [1, 0, 2]), first_deeds(house, [4, 3, 0], [1, 0, 2]), many_shortest(house, [4, 3, 0], [1, 0, 2])]
# [3, [('up', 1), ('up', 0), ('up', 1)], [('up', 1)], 1]
[steps_between(house, [4, 3, 0], [1, 0, 2]), waits_for(house, [4, 3, 0], [1, 0, 2], (1, 2)), moments(house, [4, 3, 0], [1, 0, 2]), is_neck(house, [4, 3, 0], [1, 0, 2], [(1, 1), (0, 1), (1, 2)])]
# [[(0, 1), (1, 1), (1, 2)], [(0, 1), (1, 1)], [[2], [1, 3]], True]
steep = House([2, 2], [8, 2, 2])
[waits_for(steep, [8, 0, 0], [0, 0, 2], (0, 1)), waits_for(steep, [8, 0, 0], [0, 0, 2], (0, 3)), waits_for(steep, [8, 0, 0], [0, 0, 2], (1, 2)), moments(steep, [8, 0, 0], [0, 0, 2])]
# [[], [(0, 2), (1, 1)], [(0, 4), (1, 1)], [[1, 2, 4, 5], [3, 6]]]
wide = House([2, 2, 3], [6, 3, 4, 2])
[fewest_deeds(wide, [6, 0, 4, 0], [0, 1, 2, 1]), fewest_rounds(wide, [6, 0, 4, 0], [0, 1, 2, 1]), many_shortest(wide, [6, 0, 4, 0], [0, 1, 2, 1]), rounds_for(wide, [6, 0, 4, 0], [0, 1, 2, 1])]
# [5, 3, 7, [[('up', 0), ('up', 2)], [('up', 0)], [('up', 0), ('up', 1)]]]
[is_round(wide, [6, 0, 4, 0], [("up", 0), ("down", 1), ("up", 2)]), is_chain(house, [4, 3, 0], [1, 0, 2], [("up", 0)]), fewest_rounds(wide, [6, 0, 4, 0], [6, 0, 4, 0])]
# [True, False, 0]
"""

ENDS = """
from carryways.ends import carry_ranges, dead_places, farthest, farthest_deeds, greatest_row, is_farthest, least_row, most_deeds, thing_range
from carryways.houses import House
loose, tight = House([3, 2], [4, 3, 2]), House([2, 3, 2], [3, 1, 1, 2])
[carry_ranges(loose, [4, 1, 1]), least_row(loose, [4, 1, 1]), greatest_row(loose, [4, 1, 1]), farthest_deeds(loose, [4, 1, 1]), most_deeds(loose, [4, 1, 1]), farthest(loose, [4, 1, 1])]
# [[(0, 1), (-1, 1)], [4, 3, 0], [1, 0, 2], 3, 2, [1, 0, 2]]
[carry_ranges(tight, [3, 0, 1, 1]), dead_places(tight, [3, 0, 1, 1]), thing_range(loose, [4, 1, 1]), is_farthest(loose, [1, 0, 2], [4, 3, 0])]
# [[(0, 1), (0, 0), (0, 0)], [1, 2], (3, 7), True]
"""

WISHES = """
from carryways.houses import House
from carryways.wishes import barring_place, barring_places, deeds_to, held_at, is_met, is_nearest, many_lots, meeting_ends, meeting_row, meets, nearest, pairs_at, rigid_places, same_lot, wish_house
loose, free = House([3, 2], [4, 3, 2]), House([2, 2], [4, 2, 1])
row, some = [4, 1, 1], [(0, 4), (2, 3), (0, 2)]
[meets(loose, row, some), is_met(loose, row, some), meeting_ends(loose, row, some), barring_places(loose, row, [(2, 3), (0, 3), (0, 2)]), barring_place(loose, row, [(0, 1), (0, 1), (0, 1)])]
# [False, True, ([4, 3, 0], [1, 2, 1]), [0], 2]
[deeds_to(loose, row, some), is_nearest(loose, row, some, [4, 3, 0]), is_nearest(loose, row, some, [1, 2, 1]), meeting_row(loose, row, [(2, 3), (0, 3), (0, 2)]), held_at(loose, row, 0), held_at(loose, row, 1), pairs_at(loose, row, 0, 1)]
# [1, True, True, None, [1, 4], [0, 1, 2, 3], [(1, 0), (1, 2), (4, 1), (4, 3)]]
few = [(0, 4), (0, 1), (0, 1)]
[wish_house(free, few) == House([2, 2], [4, 1, 1]), many_lots(free, [4, 0, 0], few), same_lot(free, [4, 0, 0], [2, 1, 0], few), same_lot(free, [4, 0, 0], [0, 0, 1], few), rigid_places(free, [4, 2, 1])]
# [True, 2, True, False, [0, 1, 2]]
"""

STEPS = """
from carryways.houses import House
from carryways.steps import all_ahead, are_closed, climb, is_below, is_climb, longest_needs, many_climbs, needs, row_by, steps_above, steps_of, taken
loose = House([3, 2], [4, 3, 2])
[steps_of(loose, [4, 1, 1]), taken(loose, [4, 1, 1]), needs(loose, [4, 1, 1], (1, 2)), needs(loose, [4, 1, 1], (0, 1)), climb(loose, [4, 1, 1]), row_by(loose, [4, 1, 1], [(0, 1), (1, 1)])]
# [[(0, 1), (1, 1), (1, 2)], [(1, 1)], [(0, 1), (1, 1)], [(1, 1)], [(1, 1), (0, 1), (1, 2)], [1, 2, 1]]
wide = House([2, 2, 2], [5, 4, 3, 2])
[len(steps_of(wide, [3, 2, 1, 1])), needs(wide, [3, 2, 1, 1], (1, 2)), all_ahead(wide, [3, 2, 1, 1], (2, 2)), many_climbs(wide, [3, 2, 1, 1]), len(longest_needs(wide, [3, 2, 1, 1]))]
# [6, [(0, 1), (1, 1), (2, 1)], [(0, 1), (1, 1), (1, 2), (2, 1)], 20, 3]
[are_closed(wide, [3, 2, 1, 1], [(0, 1), (2, 1)]), are_closed(wide, [3, 2, 1, 1], [(0, 2)]), is_below(wide, [5, 3, 2, 0], [3, 2, 1, 1]), steps_above(wide, [5, 3, 2, 0], [3, 2, 1, 1])]
# [True, False, True, [(0, 1), (1, 1), (2, 1)]]
"""

COUNTS = """
from carryways.counts import by_things, class_at, class_place, class_size, classes_of_worth, greatest_size, many_alone, many_classes, many_deeds, place_in_class, row_in_class, row_of_things, rows_of_worth
from carryways.houses import House
house, row = House([3, 2], [4, 3, 2]), [4, 1, 1]
[many_classes(house), class_place(house, row), class_size(house, row), [row_in_class(house, row, at) for at in range(4)], place_in_class(house, row), by_things(house, row)]
# [26, 13, 4, [[1, 0, 2], [1, 2, 1], [4, 1, 1], [4, 3, 0]], 2, {3: 1, 4: 1, 6: 1, 7: 1}]
[row_of_things(house, row, 4), row_of_things(house, row, 5), many_alone(house), many_deeds(house), greatest_size(house)]
# [[1, 2, 1], None, 8, 76, 4]
stiff = House([4, 5], [3, 9, 2])
[many_classes(stiff), class_place(stiff, [2, 7, 1]), class_size(stiff, class_at(stiff, 52)), rows_of_worth(stiff, 50), classes_of_worth(stiff, 50)]
# [80, 52, 2, 2, 1]
"""

HOLDING = """
from carryways.holding import all_held, gap_of, held_below, holds_alike, is_held, is_two_of_worth, is_why_not_held, last_held, least_alike, many_held, marks_of, next_held, two_of_worth, unlike_worth, why_not_held, worth_at, worth_decides
from carryways.houses import House
small, great = House([3], [1, 2]), House([3], [4, 1])
[is_held(small, 4), is_held(small, 5), why_not_held(small, 5), is_why_not_held(small, -1, ("below",)), why_not_held(small, 4), next_held(small, 5), last_held(small, 5), all_held(small), gap_of(small)]
# [True, False, ('place', 0), True, None, 6, 4, False, 2]
[many_held(small), held_below(small, 6), worth_at(small, 5), marks_of(small), holds_alike(small, great), unlike_worth(small, great), many_held(great)]
# [6, 4, 7, [1, 7], False, 2, 8]
stiff = House([2, 3], [5, 1, 1])
[marks_of(stiff), worth_decides(stiff), is_two_of_worth(stiff, two_of_worth(stiff)), is_two_of_worth(stiff, ([1, 0, 1], [5, 1, 0])), worth_decides(House([2, 3, 2], [3, 1, 1, 2])), least_alike(great).rooms(), least_alike(stiff).rooms()]
# [[1, 5, 13], False, True, True, True, [4, 1], [1, 3, 1]]
"""

MIDDLES = """
from carryways.houses import House
from carryways.middles import is_center, is_middle, least_sum, many_middles, middle, middle_ends, sum_of_deeds
loose = House([3, 2], [4, 3, 2])
rows = [[1, 0, 2], [4, 1, 1], [4, 3, 0]]
[middle(loose, rows), least_sum(loose, rows), sum_of_deeds(loose, rows, [1, 2, 1]), middle_ends(loose, rows[1:]), many_middles(loose, rows[1:]), many_middles(loose, [rows[0], rows[2]]), is_middle(loose, [rows[0], rows[2]], [1, 2, 1])]
# [[4, 1, 1], 3, 4, ([4, 3, 0], [4, 1, 1]), 2, 4, True]
[is_center(loose, rows, [4, 1, 1]), is_center(loose, rows, [1, 2, 1]), is_center(loose, rows, [4, 3, 0])]
# [True, True, False]
"""

PRICES = """
from carryways.houses import House
from carryways.prices import bounds_of, cheapest, least_by, least_price, least_total, many_cheapest, price_of, prices_alike, two_prices
house, row = House([3, 2], [4, 3, 2]), [4, 1, 1]
things, late = [[0, 1, 2, 3, 4], [0, 1, 2, 3], [0, 1, 2]], [[0, 0, 0, 0, 0], [0, 5, 5, 5], [0, 1, 9]]
[price_of(house, row, things), least_price(house, row, things), cheapest(house, row, things), many_cheapest(house, row, things)]
# [6, 3, [1, 0, 2], 1]
[least_price(house, row, late), cheapest(house, row, late), two_prices(house, row, things, late), prices_alike(house, row, things), least_total(house, row, late, [1, 1])]
# [5, [4, 3, 0], [(3, 9), (4, 6), (7, 5)], False, 6]
told = bounds_of(house, row, things)
[told, least_by(house, row, things, told)]
# [{(0, 0): 4, (0, 1): 1, (1, 0): 7, (1, 1): 3, (1, 2): 1}, 3]
"""

EVENTS = """
from carryways.events import always_served, any_order, bad_lot, first_unserved, heights_of, is_run_of, is_served, least_by, least_toll, many_orders, run_of_least, wish_of, worths_along
from carryways.houses import House
loose, row, events = House([3, 2], [4, 3, 2]), [4, 1, 1], [(0, 3), (2, 1), (0, -2)]
[wish_of(loose, (0, 3)), is_served(loose, row, events), worths_along(loose, row, events), first_unserved(loose, row, events + [(1, 3)]), worths_along(loose, row, events + [(1, 3)]) == worths_along(loose, row, events)]
# [[(0, 1), (0, 3), (0, 2)], True, [[13], [16], [22], [20]], 3, True]
[least_toll(loose, row, events), run_of_least(loose, row, events), is_run_of(loose, row, events, [[1, 0, 2], [1, 3, 1], [4, 2, 2]])]
# [1, [[1, 2, 1], [4, 2, 1], [4, 2, 2]], True]
[many_orders(loose, row, events), any_order(loose, row, events) is None, always_served(loose, row, events), always_served(loose, row, [(0, 3), (1, 2), (2, -2)])]
# [3, False, False, True]
heights = heights_of(loose, row, events)
[heights[0], heights[3], least_by(loose, row, events, heights)]
# [{(1, 0, 2): 2, (1, 2, 1): 1, (4, 1, 1): 0, (4, 3, 0): 1}, {(2, 2, 2): 1}, 1]
"""

SUMS = """
from carryways.houses import House
from carryways.sums import added_house, added_row, all_payable, can_be_brought, can_pay, fewest_handed, is_payment, next_payable, payment_bar
one, other = House([3, 2], [4, 3, 2]), House([3, 2], [2, 1, 1])
[added_house(one, other).rooms(), added_row(one, other, [4, 1, 1], [2, 1, 0]), can_be_brought(one, other, [4, 1, 1], [2, 1, 0], [4, 3, 1]), can_be_brought(one, other, [4, 1, 1], [2, 1, 0], [2, 1, 2])]
# [[6, 4, 3], [6, 2, 1], True, False]
till = House([12, 20], [11, 19, 5])
[can_pay(till, till, [3, 1, 1], [5, 4, 0], 9), is_payment(till, till, [3, 1, 1], [5, 4, 0], 9, ([0, 1, 0], [3, 0, 0])), fewest_handed(till, till, [3, 1, 1], [5, 4, 0], 9)]
# [True, True, 4]
[payment_bar(till, till, [3, 1, 1], [5, 4, 0], 5), next_payable(till, till, [3, 1, 1], [5, 4, 0], 4), fewest_handed(till, till, [3, 1, 1], [5, 4, 0], 195), all_payable(till, till, [3, 1, 1], [5, 4, 0])]
# [('place', 0), 7, 8, False]
"""

CHANGES = """
from carryways.changes import changed_by, classes_within, freed, is_kept_apart, must_free, parts_then, parts_within, split, split_row, upside_down, widening
from carryways.houses import House
house = House([2, 3, 2], [3, 2, 1, 2])
[must_free(house, [0, 0, 1, 0], [2, 2, 0, 0]), must_free(house, [0, 0, 0, 1], [2, 2, 1, 0]), must_free(house, [1, 0, 0, 0], [0, 0, 1, 0])]
# [[1], [1, 2], None]
late = freed(house, [1])
[late.rooms(), parts_within(house, late), widening(house, [0, 0, 1, 0], [2, 2, 0, 0]) == late]
# [[3, 3, 1, 2], [[(0, 1), (2, 2)], [(3, 3)]], True]
[classes_within(house, late, [0, 0, 1, 0]), upside_down(house, [3, 0, 1, 2]), split(House([6], [7, 2]), 0, 2, 3, 3).rooms(), split_row(House([6], [7, 2]), 0, [6, 1])]
# [[[0, 1, 0], [6, 0, 0]], [0, 2, 0, 0], [7, 3, 2], [6, 0, 1]]
[is_kept_apart(House([6], [7, 2]), 0, 2, 3, 3, [6, 0], [0, 1]), is_kept_apart(House([6], [7, 2]), 0, 2, 3, 2, [6, 0], [0, 1]), parts_then(house, [("room", 1, 3), ("longer", 5, 1)])]
# [False, True, [3, 2, 3]]
"""

YARD = """
from carryways.houses import House
from carryways.yard import Yard, replayed
yard = Yard(House([3, 2], [4, 3, 2]))
[yard.put([4, 1, 1]), yard.make(0, ("up", 0)), yard.row_there(0), yard.aim(0, [4, 3, 0]), len(yard.way(0)), yard.is_way(0, [("down", 0), ("down", 1)]), yard.go(0, [4, 3, 0]), yard.is_met(0)]
# [0, None, [1, 2, 1], None, 2, True, 2, True]
[yard.let_go(0), yard.lift(0), yard.row_there(0), yard.come(0, 0, 2), yard.row_there(0), yard.put([0, 1, 0]), yard.pour(0, 1), yard.row_there(0)]
# [None, None, [1, 0, 2], None, [3, 0, 2], 1, None, [3, 1, 2]]
[yard.undo(), yard.spots(), yard.alike_spots(0), yard.farthest_spots(), len(yard.record()), replayed(Yard(yard.house()), yard.record()).row_there(0)]
# [None, [0, 1], [], [0], 8, [3, 0, 2]]
"""

SCRIPTS = r"""
from carryways.houses import House
from carryways.scripts import end_of, play, read_script, script_text, shortened
from carryways.yard import Yard
loose = House([3, 2], [4, 3, 2])
day = [("put", [4, 1, 1]), ("make", 0, ("up", 0)), ("make", 0, ("up", 2)), ("try", [("lift", 0), ("row_there", 0)]), ("come", 0, 0, -2), ("is_met", 0), ("farthest_spots",), ("undo",)]
play(Yard(loose), day)
# [('put', 0), ('done',), ('refused', 'InvalidDeed'), ('tried', [('done',), ('told', [1, 0, 2])]), ('refused', 'Refused'), ('told', True), ('told', [0]), ('done',)]
[end_of(loose, day), shortened(loose, day) == [day[0], day[1], day[7]], read_script(script_text(day)) == day]
# [{0: ([4, 1, 1], None)}, True, True]
script_text([("put", [4, 1, 1]), ("make", 0, ("up", 0)), ("come", 0, 1, -1), ("try", [("undo",)])])
# 'put 4 1 1\nmake 0 up 0\ncome 0 1 -1\ntry\n  undo\nend'
"""

PAPERS = r"""
from carryways.houses import House
from carryways.papers import chain_text, house_text, read_chain, read_house, read_rows, rows_text
[house_text(House([3, 2], [4, 3, 2])), house_text(House([], [5])), read_house("bases\nrooms 5") == House([], [5])]
# ['bases 3 2\nrooms 4 3 2', 'bases\nrooms 5', True]
[rows_text([[4, 1, 1], [0]]), read_rows("4 1 1\n0"), chain_text([("up", 0), ("down", 1)]), read_chain("up 10")]
# ['4 1 1\n0', [[4, 1, 1], [0]], 'up 0\ndown 1', [('up', 10)]]
"""


class Examples(unittest.TestCase):
    def check_block(self, block, many):
        names, lines, compared = {}, block.strip().split("\n"), 0
        for line, below in zip(lines, lines[1:] + [""]):
            if below.startswith("# "):
                self.assertEqual(repr(eval(line, names)), below[2:], line)
                compared += 1
            elif not line.startswith("# "):
                exec(line, names)
        self.assertEqual(compared, many)

    def test_houses(self):
        self.check_block(HOUSES, 3)

    def test_rows(self):
        self.check_block(ROWS, 3)

    def test_classes(self):
        self.check_block(CLASSES, 4)

    def test_chains(self):
        self.check_block(CHAINS, 5)

    def test_ends(self):
        self.check_block(ENDS, 2)

    def test_wishes(self):
        self.check_block(WISHES, 3)

    def test_steps(self):
        self.check_block(STEPS, 3)

    def test_counts(self):
        self.check_block(COUNTS, 3)

    def test_holding(self):
        self.check_block(HOLDING, 3)

    def test_middles(self):
        self.check_block(MIDDLES, 2)

    def test_prices(self):
        self.check_block(PRICES, 3)

    def test_events(self):
        self.check_block(EVENTS, 4)

    def test_sums(self):
        self.check_block(SUMS, 3)

    def test_changes(self):
        self.check_block(CHANGES, 4)

    def test_yard(self):
        self.check_block(YARD, 3)

    def test_scripts(self):
        self.check_block(SCRIPTS, 3)

    def test_papers(self):
        self.check_block(PAPERS, 2)


if __name__ == "__main__":
    unittest.main()

"""The blocks of examples of the document: each line gives what stands below it."""

import unittest

HOUSES = """
from carryways.houses import House, held_up_to, is_within, lesser_house, many_rows, number_of, row_at, set_behind, stretch, tightened, weights, whole_worth, with_room
loose = House([3, 2], [4, 3, 2])
[weights(loose), held_up_to(loose), whole_worth(loose), many_rows(loose), row_at(loose, 37), number_of(loose, [4, 1, 1])]
# [[1, 3, 6], [4, 13, 25], 25, 60, [3, 0, 1], 52]
tight = House([2, 3, 2], [3, 1, 1, 2])
[tightened(loose, 1).rooms(), stretch(tight, 1, 3).bases(), set_behind(stretch(tight, 0, 1), 3, stretch(tight, 2, 3)) == tight, with_room(loose, 2, 0).rooms()]
# [[4, 1, 2], [3, 2], True, [4, 3, 0]]
[is_within(tightened(loose, 1), loose), is_within(tight, loose), lesser_house(loose, House([3, 2], [1, 9, 2])).rooms()]
# [True, False, [1, 3, 2]]
"""

ROWS = """
from carryways.houses import House
from carryways.rows import chain_back, deed_between, deeds_counted, deeds_let, done, is_alone, is_chain_from, is_let, many_things, row_behind, rows_beside, rows_on, same_up_to, worth_of
loose = House([3, 2], [4, 3, 2])
[worth_of(loose, [4, 1, 1]), many_things(loose, [4, 1, 1]), deeds_let(loose, [4, 1, 1]), is_let(loose, [4, 1, 1], ("up", 1)), done(loose, [4, 1, 1], ("up", 0))]
# [13, 6, [('down', 1), ('up', 0)], False, [1, 2, 1]]
ways = [("up", 1), ("up", 0), ("up", 1)]
[rows_on(loose, [4, 3, 0], ways), row_behind(loose, [4, 3, 0], ways), deeds_counted(loose, [4, 3, 0], ways), chain_back(loose, [4, 3, 0], ways)]
# [[[4, 3, 0], [4, 1, 1], [1, 2, 1], [1, 0, 2]], [1, 0, 2], [1, 2], [('down', 1), ('down', 0), ('down', 1)]]
[rows_beside(loose, [1, 2, 1]), deed_between(loose, [1, 2, 1], [4, 1, 1]), deed_between(loose, [4, 3, 0], [1, 0, 2]), is_chain_from(loose, [4, 3, 0], [("up", 0)]), is_alone(loose, [0, 0, 0]), same_up_to(loose, [4, 1, 1], [1, 2, 1], 1)]
# [[[1, 0, 2], [4, 1, 1]], ('down', 0), None, False, True, True]
"""


class Examples(unittest.TestCase):
    def check_block(self, block, many):
        names, lines, compared = {}, block.strip().split("\n"), 0
        for line, below in zip(lines, lines[1:] + [""]):
            if below.startswith("# "):
                self.assertEqual(repr(eval(line, names)), below[2:], line)
                compared += 1
            elif not line.startswith("# "):
                exec(line, names)
        self.assertEqual(compared, many)

    def test_houses(self):
        self.check_block(HOUSES, 3)

    def test_rows(self):
        self.check_block(ROWS, 3)


if __name__ == "__main__":
    unittest.main()

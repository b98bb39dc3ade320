import pathlib
import unittest

from tests import examples

README = pathlib.Path(__file__).resolve().parent.parent / "README.md"

ROWS = """
>>> from keptarcs.rows import exchanged, greatest_below, is_below, judge_below, least_above, mirror, row_by_pairs, turned_pairs
>>> [turned_pairs(3, (3, 1, 2)), mirror(3, (3, 1, 2)), is_below(3, (1, 3, 2), (3, 1, 2)), judge_below(3, (2, 1, 3), (1, 3, 2)), least_above(3, (2, 1, 3), (1, 3, 2)), greatest_below(3, (2, 3, 1), (3, 1, 2)), exchanged(3, (3, 1, 2), 1), row_by_pairs(3, ((1, 3), (2, 3)))]
[((1, 3), (2, 3)), (2, 1, 3), True, ('pair', 1, 2), (3, 2, 1), (1, 2, 3), (3, 2, 1), (3, 1, 2)]
>>> from keptarcs.rows import row_by_pairs
>>> row_by_pairs(3, ((1, 3),))
raises BadPairs(((1, 3),))
"""

ARCS = """
>>> from keptarcs.arcs import all_arcs, arc_at, arcs_of_falls, arcs_of_rises, arcs_within, crossing_holds, judge_crossing, lies_within, single_row
>>> [all_arcs(3), arc_at(4, (2, 4, 1, 3), 1), arcs_of_falls(4, (4, 3, 1, 2)), arcs_of_rises(4, (2, 4, 1, 3)), single_row(4, (1, 4, (2,)))]
[((1, 2, ()), (1, 3, ()), (1, 3, (2,)), (2, 3, ())), (1, 4, (2,)), ((1, 3, ()), (3, 4, ())), ((1, 3, (2,)), (2, 4, ())), (2, 4, 1, 3)]
>>> [arcs_within(3, (1, 3, (2,))), lies_within(4, (2, 3, ()), (1, 4, (2,))), lies_within(4, (1, 3, ()), (1, 4, (2,))), judge_crossing(4, (1, 3, ()), (2, 4, ())), judge_crossing(4, (1, 3, ()), (2, 4, (3,))), crossing_holds(4, (1, 3, (2,)), (2, 4, ()), ('apart',))]
[((1, 2, ()), (1, 3, (2,)), (2, 3, ())), True, False, ('cross', 3, 2), ('apart',), True]
"""

LOTS = """
>>> from keptarcs.lots import all_lots, judge_lot, judge_making, lot_holds, lot_of_falls, lot_of_rises, row_of_falls, row_of_rises
>>> [judge_lot(4, ((1, 3, ()), (2, 4, ()))), judge_lot(3, ((1, 2, ()), (1, 3, ())))[0], judge_lot(3, ((1, 2, ()), (2, 3, ()))), lot_of_falls(4, (2, 4, 1, 3)), row_of_falls(4, ((1, 3, (2,)), (2, 4, ()))), row_of_rises(3, ((1, 2, ()),)), lot_of_rises(3, (3, 1, 2)), len(all_lots(4))]
[('cross', (1, 3, ()), (2, 4, ()), 3, 2), 'ends', ('lot',), ((1, 4, (2,)),), (4, 2, 3, 1), (3, 1, 2), ((1, 2, ()),), 24]
>>> [lot_holds(3, ((1, 2, ()), (1, 3, ())), ('ends', (1, 2, ()), (1, 3, ()))), judge_making(3, (3, 2, 1), ((2, 1, 3), (1, 3, 2))), judge_making(3, (2, 3, 1), ((2, 1, 3),))]
[True, ('makes',), ('pair', 1, 3)]
"""


class ExamplesTest(unittest.TestCase):
    def test_rows(self):
        examples.check(self, ROWS)

    def test_arcs(self):
        examples.check(self, ARCS)

    def test_lots(self):
        examples.check(self, LOTS)

    def test_readme(self):
        blocks = README.read_text().split("```")[1::2]
        self.assertEqual(len(blocks), 2)
        for block in blocks:
            examples.check(self, block)


if __name__ == "__main__":
    unittest.main()

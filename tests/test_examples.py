import pathlib
import unittest

from tests import examples

README = pathlib.Path(__file__).resolve().parent.parent / "README.md"

ROWS = """
>>> from keptarcs.rows import exchanged, greatest_below, is_below, judge_below, least_above, mirror, row_by_pairs, turned_pairs
>>> [turned_pairs(3, (3, 1, 2)), mirror(3, (3, 1, 2)), is_below(3, (1, 3, 2), (3, 1, 2)), judge_below(3, (2, 1, 3), (1, 3, 2)), least_above(3, (2, 1, 3), (1, 3, 2)), greatest_below(3, (2, 3, 1), (3, 1, 2)), exchanged(3, (3, 1, 2), 1), row_by_pairs(3, ((1, 3), (2, 3)))]
[((1, 3), (2, 3)), (2, 1, 3), True, ('pair', 1, 2), (3, 2, 1), (1, 2, 3), (3, 2, 1), (3, 1, 2)]
>>> from keptarcs.rows import row_by_pairs
>>> row_by_pairs(3, ((1, 3),))
raises BadPairs(((1, 3),))
"""

ARCS = """
>>> from keptarcs.arcs import all_arcs, arc_at, arcs_of_falls, arcs_of_rises, arcs_within, crossing_holds, judge_crossing, lies_within, single_row
>>> [all_arcs(3), arc_at(4, (2, 4, 1, 3), 1), arcs_of_falls(4, (4, 3, 1, 2)), arcs_of_rises(4, (2, 4, 1, 3)), single_row(4, (1, 4, (2,)))]
[((1, 2, ()), (1, 3, ()), (1, 3, (2,)), (2, 3, ())), (1, 4, (2,)), ((1, 3, ()), (3, 4, ())), ((1, 3, (2,)), (2, 4, ())), (2, 4, 1, 3)]
>>> [arcs_within(3, (1, 3, (2,))), lies_within(4, (2, 3, ()), (1, 4, (2,))), lies_within(4, (1, 3, ()), (1, 4, (2,))), judge_crossing(4, (1, 3, ()), (2, 4, ())), judge_crossing(4, (1, 3, ()), (2, 4, (3,))), crossing_holds(4, (1, 3, (2,)), (2, 4, ()), ('apart',))]
[((1, 2, ()), (1, 3, (2,)), (2, 3, ())), True, False, ('cross', 3, 2), ('apart',), True]
"""

LOTS = """
>>> from keptarcs.lots import all_lots, judge_lot, judge_making, lot_holds, lot_of_falls, lot_of_rises, row_of_falls, row_of_rises
>>> [judge_lot(4, ((1, 3, ()), (2, 4, ()))), judge_lot(3, ((1, 2, ()), (1, 3, ())))[0], judge_lot(3, ((1, 2, ()), (2, 3, ()))), lot_of_falls(4, (2, 4, 1, 3)), row_of_falls(4, ((1, 3, (2,)), (2, 4, ()))), row_of_rises(3, ((1, 2, ()),)), lot_of_rises(3, (3, 1, 2)), len(all_lots(4))]
[('cross', (1, 3, ()), (2, 4, ()), 3, 2), 'ends', ('lot',), ((1, 4, (2,)),), (4, 2, 3, 1), (3, 1, 2), ((1, 2, ()),), 24]
>>> [lot_holds(3, ((1, 2, ()), (1, 3, ())), ('ends', (1, 2, ()), (1, 3, ()))), judge_making(3, (3, 2, 1), ((2, 1, 3), (1, 3, 2))), judge_making(3, (2, 3, 1), ((2, 1, 3),))]
[True, ('makes',), ('pair', 1, 3)]
"""

RULES = """
>>> from keptarcs.rules import all_rules, judge_rule, least_blind, many_rules, rules_common, rules_together, widest_rule
>>> EASY = ((1, 2, ()), (1, 3, ()), (2, 3, ()))
>>> [judge_rule(3, EASY), judge_rule(3, ((1, 2, ()), (1, 3, ()))), widest_rule(3, ((1, 3, (2,)),)) == EASY, least_blind(3, EASY), least_blind(3, ((2, 3, ()),)), len(all_rules(3)), many_rules(4)]
[('rule',), ('lacks', (1, 3, ()), (2, 3, ())), True, ((1, 3, (2,)),), ((1, 2, ()),), 7, 60]
>>> [rules_common(3, EASY, ((1, 2, ()), (1, 3, (2,)), (2, 3, ()))), rules_together(3, ((1, 2, ()),), ((2, 3, ()),))]
[((1, 2, ()), (2, 3, ())), ((1, 2, ()), (2, 3, ()))]
>>> from keptarcs.finest import arc_holds, finest_rule, judge_arc
>>> [finest_rule(3, (((2, 1, 3), (2, 3, 1)),)), finest_rule(3, (((1, 2, 3), (2, 1, 3)),)), arc_holds(3, (((1, 2, 3), (2, 1, 3)),), (1, 3, ()), ('blind', 0, 0, (0,))), judge_arc(3, (((2, 1, 3), (2, 3, 1)),), (1, 3, ()))[0]]
[((1, 2, ()), (1, 3, ()), (2, 3, ())), ((2, 3, ()),), True, 'counts']
"""

CLASSES = """
>>> from keptarcs.classes import are_one, class_of, classes, first_row, judge_first, judge_one, last_row, lot_of_class, many_classes, one_holds, row_of_lot, way_down
>>> EASY = ((1, 2, ()), (1, 3, ()), (2, 3, ()))
>>> [first_row(3, EASY, (2, 3, 1)), last_row(3, EASY, (2, 1, 3)), class_of(3, EASY, (2, 3, 1)), judge_first(3, EASY, (2, 3, 1)), way_down(3, EASY, (2, 3, 1)), lot_of_class(3, EASY, (2, 3, 1)), row_of_lot(3, EASY, ((1, 3, ()),))]
[(2, 1, 3), (2, 3, 1), ((2, 1, 3), (2, 3, 1)), ('fall', 1), (1,), ((1, 2, ()),), (3, 1, 2)]
>>> [are_one(3, EASY, (2, 1, 3), (2, 3, 1)), judge_one(3, EASY, (2, 1, 3), (1, 2, 3)), one_holds(3, EASY, (2, 1, 3), (2, 3, 1), ('ways', (1,))), classes(3, EASY), many_classes(3, ()), many_classes(4, ((1, 2, ()), (2, 3, ()), (3, 4, ())))]
[True, ('lots', ((1, 2, ()),), ()), True, ((1, 2, 3), (1, 3, 2), (2, 1, 3), (3, 1, 2), (3, 2, 1)), 1, 8]
"""

QUOTIENT = """
>>> from keptarcs.quotient import are_neighbours, class_below_holds, greatest_class_below, is_class_below, judge_class_below, least_class_above, lower_neighbours, upper_neighbours
>>> EASY = ((1, 2, ()), (1, 3, ()), (2, 3, ()))
>>> [is_class_below(3, EASY, (2, 3, 1), (3, 2, 1)), judge_class_below(3, EASY, (3, 1, 2), (2, 1, 3))[0], class_below_holds(3, EASY, (2, 3, 1), (3, 2, 1), ('below', (2, 1, 3), (3, 2, 1))), least_class_above(3, EASY, (2, 1, 3), (1, 3, 2)), greatest_class_below(3, EASY, (2, 3, 1), (3, 1, 2))]
[True, 'pair', True, (3, 2, 1), (1, 2, 3)]
>>> [lower_neighbours(3, EASY, (3, 2, 1)), upper_neighbours(3, EASY, (2, 1, 3)), are_neighbours(3, EASY, (1, 3, 2), (3, 1, 2)), are_neighbours(3, EASY, (2, 1, 3), (3, 1, 2))]
[(((1, 2, ()), (3, 1, 2)), ((2, 3, ()), (2, 1, 3))), (((2, 3, ()), (3, 2, 1)),), True, False]
"""

LISTS = """
>>> from keptarcs.lists import gone_through, lesser_rule, listed_row, place_in_list, row_at
>>> ALL = ((1, 2, ()), (1, 3, ()), (1, 3, (2,)), (2, 3, ()))
>>> TREES = ((1, 2, ()), (1, 3, ()), (2, 3, ()))
>>> [gone_through(3, ALL), gone_through(3, TREES), gone_through(3, ((1, 2, ()),))]
[((1, 2, 3), (1, 3, 2), (3, 1, 2), (3, 2, 1), (2, 3, 1), (2, 1, 3)), ((1, 2, 3), (1, 3, 2), (3, 1, 2), (3, 2, 1), (2, 1, 3)), ((1, 2, 3), (2, 1, 3))]
>>> [lesser_rule(3, TREES), listed_row(3, TREES, (2, 3, 1)), place_in_list(3, TREES, (2, 3, 1)), row_at(3, ALL, 4)]
[((1, 2, ()),), (2, 1, 3), 4, (2, 3, 1)]
"""

EVEN = """
>>> from keptarcs.even import even_holds, is_full, judge_even, many_neighbours
>>> TREES = ((1, 2, ()), (1, 3, ()), (2, 3, ()))
>>> [is_full(3, TREES), is_full(3, ((1, 2, ()),)), many_neighbours(3, TREES, (2, 3, 1)), judge_even(3, TREES), even_holds(3, TREES, ('uneven', (1, 3, (2,)), (1, 2, 3)))]
[True, False, 2, ('even',), False]
"""

MARKS = """
>>> from keptarcs.marks import is_marks, judge_marked, marked_holds, rule_of_marks, twin_rule
>>> TREES = ((1, 2, ()), (1, 3, ()), (2, 3, ()))
>>> [is_marks(3, ('', 'ahead', '')), rule_of_marks(3, ('', 'ahead', 'both')), rule_of_marks(3, ('', 'both', '')), judge_marked(3, TREES)[0], marked_holds(3, TREES, ('marks', ('both', 'ahead', ''))), len(twin_rule(4))]
[True, ((1, 2, ()), (1, 3, ()), (2, 3, ())), ((1, 2, ()), (2, 3, ())), 'marks', True, 9]
>>> from keptarcs.trees import first_row_of, is_tree, judge_twins, late_tree_of, next_trees, rows_of_tree, tree_of, twins_hold
>>> [tree_of(3, (2, 3, 1)), late_tree_of(3, (2, 3, 1)), is_tree(2, (1, (2, (), ()), ())), rows_of_tree(3, tree_of(3, (2, 3, 1))), first_row_of(3, tree_of(3, (2, 3, 1)))]
[(2, (1, (), ()), (3, (), ())), (1, (), (3, (2, (), ()), ())), False, 2, (2, 1, 3)]
>>> [next_trees(2, (1, (), (2, (), ()))), judge_twins(3, tree_of(3, (2, 3, 1)), late_tree_of(3, (2, 3, 1))), twins_hold(2, (1, (), (2, (), ())), (1, (), (2, (), ())), ('apart', 1))]
[((2, (1, (), ()), ()),), ('twins', (2, 3, 1)), True]
"""

MACHINES = """
>>> from keptarcs.machines import finer_holds, judge_alike, judge_machine, many_classes, reads, rule_for, shunning, turn_word
>>> ALL, TREES = ((0,), (0,), (True,)), ((1, 1), (0, 1), (True, False))
>>> [turn_word(5, (1, 5, (2, 4))), reads(TREES, 'BB'), reads(TREES, 'BA'), judge_machine(TREES), judge_machine(((1, 1), (1, 1), (True, False))), judge_machine(((1, 0), (1, 0), (True, False)))[0]]
['ABA', True, False, ('rule',), ('rule',), 'stretch']
>>> [rule_for(3, TREES), many_classes(3, TREES), many_classes(5, ALL), many_classes(8, TREES), judge_alike(ALL, TREES), finer_holds(ALL, TREES, ('finer',)), reads(shunning(('AB',)), 'BAA')]
[((1, 2, ()), (1, 3, ()), (2, 3, ())), 5, 120, 1430, ('word', 'A'), True, True]
"""

BODIES = """
>>> from keptarcs.bodies import best_matching, corner, corners, greatest_worth, judge_point, matchings
>>> TWO, ALL = ((1, 2, ()),), ((1, 2, ()), (1, 3, ()), (1, 3, (2,)), (2, 3, ()))
>>> [matchings(3, (1, 3, ())), matchings(4, (1, 4, (3,))), best_matching(3, (1, 3, (2,)), (1, 3, 2)), corner(3, ALL, (3, 2, 1)), corner(3, ALL, (1, 3, 2))]
[((), (1, 2), (1, 3)), ((), (1, 2), (1, 2, 3, 4), (1, 4), (3, 4)), (2, 3), (3, 0, -3), (0, 2, -2)]
>>> [corners(2, TWO), greatest_worth(2, TWO, (5, 1)), judge_point(2, TWO, (1, -1)), judge_point(2, TWO, (2, -2)), judge_point(2, TWO, (1, 0)), judge_point(3, ALL, (1, 0, -1))]
[((0, 0), (1, -1)), 4, ('corner', (2, 1)), ('outside', (1,)), ('outside', (1, 2)), ('within',)]
"""

MAPS = """
>>> from keptarcs.maps import class_map, class_order, is_map, is_order, judge_map, map_holds
>>> STEP = (2, ((0, 1),))
>>> [is_order(STEP), is_order((2, ())), is_map(2, STEP, (0, 1)), judge_map(2, STEP, (0, 1)), judge_map(2, STEP, (1, 1)), map_holds(2, STEP, (1, 0), ('parts', 'above', (1, 2), (2, 1)))]
[True, False, True, ('keeps', ((1, 2, ()),)), ('keeps', ()), True]
>>> [class_order(3, ((1, 2, ()),)), class_map(3, ((1, 2, ()),))]
[(2, ((0, 1),)), (0, 0, 1, 1, 0, 1)]
"""

YARDS = """
>>> from keptarcs.yards import Yard, read_yard
>>> yard = Yard(3)
>>> [yard.blind((1, 3, (2,))), yard.exchange(0), yard.exchange(1), yard.row(), yard.first(), yard.down(), yard.row()]
[None, None, None, (2, 3, 1), (2, 1, 3), None, (2, 1, 3)]
>>> [yard.text(), yard.undo(), yard.row(), yard.count((1, 3, (2,))), len(yard.rule()), yard.undoable(), yard.is_same(yard.copied())]
['yard 3\\nrow 2 1 3\\narc 1 3 2', None, (2, 3, 1), None, 4, 4, True]
>>> yard.exchange(2)
raises BadNumber(2)
>>> from keptarcs.yards import read_yard
>>> read_yard('yard 3\\nrow 1 2 3\\narc 1 3 2\\narc 1 2')
raises BadText(4)
"""


class ExamplesTest(unittest.TestCase):
    def test_rows(self):
        examples.check(self, ROWS)

    def test_arcs(self):
        examples.check(self, ARCS)

    def test_lots(self):
        examples.check(self, LOTS)

    def test_rules_and_finest_rules(self):
        examples.check(self, RULES)

    def test_classes(self):
        examples.check(self, CLASSES)

    def test_quotient(self):
        examples.check(self, QUOTIENT)

    def test_lists(self):
        examples.check(self, LISTS)

    def test_even_rules(self):
        examples.check(self, EVEN)

    def test_marks_and_trees(self):
        examples.check(self, MARKS)

    def test_machines(self):
        examples.check(self, MACHINES)

    def test_bodies(self):
        examples.check(self, BODIES)

    def test_maps(self):
        examples.check(self, MAPS)

    def test_yards(self):
        examples.check(self, YARDS)

    def test_readme(self):
        blocks = README.read_text().split("```")[1::2]
        self.assertEqual(len(blocks), 6)
        for block in blocks:
            examples.check(self, block)


if __name__ == "__main__":
    unittest.main()

"""[0.3] over the whole program: the answers of its parts fit one another, and each has its certificate."""

import itertools
import unittest

from keptarcs import arcs, bodies, classes, even, finest, lists, lots, machines, maps, marks, quotient, rows, rules, trees
from keptarcs.yards import Yard, read_yard
from tests import plain
from tests.some_machines import some_rules
from tests.some_rules import drawn, drawn_rows, full_rules


def some_of(things, step):
    return list(things)[::step]


class GuaranteeTest(unittest.TestCase):
    def test_one_row_lies_below_the_other_or_a_pair_shows_that_it_does_not(self):
        for n in range(1, 5):
            pairs = [("pair", a, b) for a, b in plain.number_pairs(n)]
            for one, other in itertools.product(rows.all_rows(n), repeat=2):
                right = [thing for thing in [("below",), *pairs] if rows.below_holds(n, one, other, thing)]
                self.assertIn(rows.judge_below(n, one, other), right)
                self.assertEqual(right == [("below",)], plain.is_below(one, other))
                self.assertEqual(len({thing[0] for thing in right}), 1)

    def test_each_lot_is_that_of_the_falls_of_just_one_row(self):
        for n in range(1, 6):
            told = {lot: lots.row_of_falls(n, lot) for lot in lots.all_lots(n)}
            self.assertEqual(sorted(told.values()), plain.rows(n))
            for lot, row in told.items():
                self.assertEqual(arcs.arcs_of_falls(n, row), lot)
                self.assertEqual(lots.judge_lot(n, lot), ("lot",))

    def test_a_tuple_of_arcs_is_a_rule_or_two_arcs_show_that_it_is_none(self):
        for n in range(1, 5):
            everything = arcs.all_arcs(n)
            for seed in range(30):
                some = drawn(n, seed % (len(everything) + 1), seed)
                things = [("rule",), *(("lacks", *two) for two in itertools.product(everything, repeat=2))]
                right = [thing for thing in things if rules.rule_holds(n, some, thing)]
                self.assertIn(rules.judge_rule(n, some), right)
                self.assertEqual(right == [("rule",)], rules.is_rule(n, some))

    def test_the_finest_rule_is_told_with_a_reason_for_each_blind_arc(self):
        for n in (3, 4, 5):
            for seed in range(8):
                pairs = tuple(zip(drawn_rows(n, 2, seed), drawn_rows(n, 2, seed + 100)))
                rule = finest.finest_rule(n, pairs)
                for one, other in pairs:
                    self.assertIs(classes.are_one(n, rule, one, other), True)
                for arc in arcs.all_arcs(n):
                    found = finest.judge_arc(n, pairs, arc)
                    self.assertEqual(found[0], "counts" if arc in rule else "blind")
                    self.assertIs(finest.arc_holds(n, pairs, arc, found), True)

    def test_two_rows_are_one_or_their_lots_part_them(self):
        for n, rule in [(n, rule) for n in (1, 2, 3) for rule in rules.all_rules(n)]:
            for one, other in itertools.product(rows.all_rows(n), repeat=2):
                found = classes.judge_one(n, rule, one, other)
                self.assertIs(classes.one_holds(n, rule, one, other, found), True)
                lots_told = ("lots", classes.lot_of_class(n, rule, one), classes.lot_of_class(n, rule, other))
                are_one = classes.are_one(n, rule, one, other)
                self.assertEqual(found[0], "ways" if are_one else "lots")
                self.assertIs(classes.one_holds(n, rule, one, other, lots_told), not are_one)

    def test_the_list_has_each_class_once_and_neighbours_next_to_one_another(self):
        for n, rule in [(n, rule) for n in range(1, 5) for rule in rules.all_rules(n)]:
            found = lists.gone_through(n, rule)
            firsts = [classes.first_row(n, rule, row) for row in found]
            self.assertEqual(sorted(firsts), list(classes.classes(n, rule)))
            for one, other in zip(found, found[1:]):
                self.assertIs(quotient.are_neighbours(n, rule, one, other), True)

    def test_two_rules_for_all_n_are_alike_or_a_shortest_word_parts_them(self):
        some = some_of(some_rules(), 4)
        for one, other in itertools.product(some, repeat=2):
            found = machines.judge_alike(one, other)
            self.assertIs(machines.alike_holds(one, other, found), True)
            self.assertIs(machines.alike_holds(one, other, ("alike",)), found == ("alike",))
            both_finer = [machines.judge_finer(one, other), machines.judge_finer(other, one)]
            self.assertEqual(found == ("alike",), both_finer == [("finer",)] * 2)
            if found[0] == "word":
                self.assertNotEqual(machines.reads(one, found[1]), machines.reads(other, found[1]))

    def test_a_map_keeps_both_or_two_rows_show_that_it_does_not(self):
        for n, rule in [(n, rule) for n in (1, 2, 3) for rule in rules.all_rules(n)]:
            order, places = maps.class_order(n, rule), maps.class_map(n, rule)
            self.assertEqual(maps.judge_map(n, order, places), ("keeps", rule))
            found = maps.judge_map(n, order, places[::-1])
            self.assertIs(maps.map_holds(n, order, places[::-1], found), True)
            self.assertEqual(found[0] == "keeps", len(classes.classes(n, rule)) == 1)


class PartsTest(unittest.TestCase):
    """What different parts tell of the same things."""

    def test_classes_are_told_alike_by_all_parts(self):
        for n, rule in [(n, rule) for n in range(1, 5) for rule in some_of(rules.all_rules(n), n)]:
            many = classes.many_classes(n, rule)
            self.assertEqual(len(lists.gone_through(n, rule)), many)
            self.assertEqual(len(bodies.corners(n, rule)), many)
            self.assertEqual(maps.class_order(n, rule)[0], many)

    def test_numbers_of_neighbours(self):
        for n, rule in [(n, rule) for n in range(1, 5) for rule in full_rules(n)[::n]]:
            for row in rows.all_rows(n)[::n]:
                told = quotient.lower_neighbours(n, rule, row) + quotient.upper_neighbours(n, rule, row)
                self.assertEqual(even.many_neighbours(n, rule, row), len(told))

    def test_rules_by_marks_and_by_machines(self):
        no_a, no_b = machines.shunning(("A",)), machines.shunning(("B",))
        twins = machines.shunning(("AB", "BA"))
        for n in range(1, 6):
            self.assertEqual(machines.rule_for(n, no_a), marks.rule_of_marks(n, ("ahead",) * n))
            self.assertEqual(machines.rule_for(n, no_b), marks.rule_of_marks(n, ("behind",) * n))
            self.assertEqual(machines.rule_for(n, twins), marks.twin_rule(n))
            rule = machines.rule_for(n, no_a)
            self.assertEqual(machines.many_classes(n, no_a), classes.many_classes(n, rule))
            found = {trees.tree_of(n, row): classes.first_row(n, rule, row) for row in rows.all_rows(n)}
            for tree, row in found.items():
                self.assertEqual(trees.first_row_of(n, tree), row)

    def test_yards_tell_what_the_functions_tell(self):
        for n in (2, 4, 7):
            yard = Yard(n)
            for arc in drawn(n, 4, n):
                yard.blind(arc)
                yard.up()
            self.assertEqual(yard.rule(), rules.widest_rule(n, drawn(n, 4, n)))
            self.assertEqual(yard.first(), classes.first_row(n, yard.rule(), yard.row()))
            self.assertEqual(yard.last(), classes.last_row(n, yard.rule(), yard.row()))
            self.assertEqual(read_yard(yard.text()).rule(), yard.rule())


if __name__ == "__main__":
    unittest.main()

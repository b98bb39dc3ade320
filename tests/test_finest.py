import itertools
import unittest

from keptarcs import finest
from keptarcs.errors import BadArc, BadPairs
from tests import plain
from tests.some_rules import drawn_rows, some_rules
from tests.test_arcs import wrong_arcs
from tests.test_rows import wrong_rows
from tests.values import ANY, Own, check_holds, check_told, check_wrong, is_among, same, spoiled

UP, DOWN = (1, 2, 3, 4, 5, 6), (6, 5, 4, 3, 2, 1)
SIX_ROWS = drawn_rows(6, 40, 6)


def all_pairs(n):
    return list(itertools.product(plain.rows(n), repeat=2))


def drawn_tuples(n, many, seed):
    """Tuples of one to four pairs of rows, drawn in the same way each time."""
    rows = drawn_rows(n, 8 * many, seed)
    return [tuple(zip(rows[8 * k:8 * k + 4], rows[8 * k + 4:8 * k + 8]))[:k % 4 + 1] for k in range(many)]


def near_tuples(n, many, seed):
    """Tuples of one or two pairs of rows that are not far from one another."""
    rows = drawn_rows(n, 2 * many, seed)
    pairs = [(row, plain.end_of(row, [k % (n - 1), 0])) for k, row in enumerate(rows)]
    return [tuple(pairs[2 * k:2 * k + k % 2 + 1]) for k in range(many)]


def holds_as_one(n, rule, pairs):
    return all(one in plain.parts(n, rule)[other] for one, other in pairs)


def holding(n, pairs):
    """All rules by which each pair is one."""
    return [rule for rule in plain.rules(n) if holds_as_one(n, rule, pairs)]


def finest_of(rules):
    """The one rule that has all counting arcs of all rules."""
    (found,) = [rule for rule in rules if all(set(other) <= set(rule) for other in rules)]
    return found


def is_blind_certificate(pairs, arc, thing):
    """Whether a tuple ("blind", at, i, steps) of valid positions is right."""
    _, at, i, steps = thing
    low, high = plain.joined(pairs[at])
    risen = all(k in plain.rises(plain.end_of(low, steps[:at])) for at, k in enumerate(steps))
    return risen and plain.end_of(low, steps) == high and plain.lies_within(plain.arcs_of_steps(low, steps)[i], arc)


def blind_certificates(pairs, arc):
    return [
        ("blind", at, i, steps)
        for at, pair in enumerate(pairs) for steps in plain.ways_up(*plain.joined(pair))
        for i, one in enumerate(plain.arcs_of_steps(plain.joined(pair)[0], steps)) if plain.lies_within(one, arc)
    ]


def certificates(n, pairs, arc):
    """All right certificates."""
    counting = [("counts", rule) for rule in holding(n, pairs) if arc in rule]
    return counting + blind_certificates(pairs, arc)


def is_pair(n, thing):
    return type(thing) is tuple and len(thing) == 2 and all(plain.is_row(n, row) for row in thing)


def wrong_pairs(n):
    row = tuple(range(n, 0, -1))
    found = [*ANY, [(row, row)], (row, row), ([row, row],), ((row, row, row),)]
    found += [((row,),), ((row, row), None), ((row, row), (row,)), ((row, row), [row, row]), ({},), ((),)]
    for other in wrong_rows(n):
        found += [((row, other),), ((other, row),), ((row, row), (row, other))]
    return [thing for thing in found if type(thing) is not tuple or not all(is_pair(n, pair) for pair in thing)]


class FinestRuleTest(unittest.TestCase):
    """[4.3]"""

    def check_finest(self, n, pairs):
        self.assertTrue(same(finest.finest_rule(n, pairs), finest_of(holding(n, pairs))), (n, pairs))

    def test_one_pair(self):
        for n in range(1, 4):
            for pair in all_pairs(n):
                self.check_finest(n, (pair,))
        for pair in all_pairs(4)[::2]:
            self.check_finest(4, (pair,))

    def test_more_pairs(self):
        for pairs in itertools.product(all_pairs(3), repeat=2):
            self.check_finest(3, pairs)
        for pairs in drawn_tuples(4, 40, 1) + near_tuples(4, 80, 2):
            self.check_finest(4, pairs)

    def test_no_pairs(self):
        for n in range(1, 7):
            self.assertTrue(same(finest.finest_rule(n, ()), tuple(plain.arcs(n))))

    def test_a_row_with_itself(self):
        for n in range(1, 7):
            for row in drawn_rows(n, 5, n):
                self.assertEqual(finest.finest_rule(n, ((row, row),)), tuple(plain.arcs(n)))
                self.assertEqual(finest.finest_rule(n, ((row, row),) * 4), tuple(plain.arcs(n)))

    def test_all_ways_give_the_same(self):
        for one, other in all_pairs(4)[::5]:
            low, high = plain.joined((one, other))
            rules = {plain.widest(4, plain.arcs_of_steps(low, steps)) for steps in plain.ways_up(low, high)}
            self.assertEqual({finest.finest_rule(4, ((one, other),))}, rules)

    def test_five_and_six_numbers(self):
        # No rule with one arc more holds the pairs as one, so no finer rule does.
        tuples = [(n, pairs) for n in (5, 6) for pairs in drawn_tuples(n, 8, n) + near_tuples(n, 24, n)]
        for n, pairs in tuples + [(6, ((UP, DOWN),)), (6, ((DOWN, UP), (UP, UP)))]:
            rule = finest.finest_rule(n, pairs)
            self.assertTrue(plain.is_rule(n, rule))
            self.assertTrue(all(one in plain.one_class(rule, other) for one, other in pairs), (n, pairs))
            for arc in plain.least_blind(n, rule):
                finer = tuple(sorted((*rule, arc)))
                self.assertFalse(all(one in plain.one_class(finer, other) for one, other in pairs), (n, pairs))

    def test_one_blind_exchange(self):
        for n in range(2, 7):
            for row in drawn_rows(n, 6, n):
                for i in range(n - 1):
                    pairs = ((row, plain.exchanged(row, i)),)
                    expected = plain.widest(n, (plain.arc_at(row, i),))
                    self.assertTrue(same(finest.finest_rule(n, pairs), expected))

    def test_an_order_of_pairs_and_of_rows_changes_nothing(self):
        for pairs in drawn_tuples(6, 12, 5) + near_tuples(6, 12, 6):
            rule = finest.finest_rule(6, pairs)
            self.assertEqual(finest.finest_rule(6, pairs[::-1]), rule)
            self.assertEqual(finest.finest_rule(6, tuple(pair[::-1] for pair in pairs)), rule)


class JudgeArcTest(unittest.TestCase):
    """[4.3]"""

    def check_judged(self, n, pairs, rule):
        for arc in plain.arcs(n):
            found = finest.judge_arc(n, pairs, arc)
            if arc in rule:
                self.assertEqual(found[0], "counts")
                self.assertTrue(plain.is_rule(n, found[1]))
                self.assertTrue(len(found) == 2 and arc in found[1] and set(found[1]) <= set(rule))
            else:
                self.assertTrue(len(found) == 4 and found[0] == "blind" and plain.is_places(n, found[3]))
                self.assertTrue(all(type(k) is int and k >= 0 for k in found[1:3]))
                self.assertTrue(is_blind_certificate(pairs, arc, found), (pairs, arc, found))
            self.assertIs(finest.arc_holds(n, pairs, arc, found), True)

    def test_judge_arc_gives_a_right_certificate(self):
        for n in (1, 2, 3):
            for pairs in [(), *((pair,) for pair in all_pairs(n)), *itertools.product(all_pairs(n), repeat=2)]:
                self.check_judged(n, pairs, finest_of(holding(n, pairs)))
        for pairs in [(), *((pair,) for pair in all_pairs(4)[::7]), *drawn_tuples(4, 8, 3), *near_tuples(4, 20, 4)]:
            self.check_judged(4, pairs, finest_of(holding(4, pairs)))

    def test_six_numbers(self):
        for pairs in [*drawn_tuples(6, 4, 7), *near_tuples(6, 8, 8), ((UP, DOWN),), ((UP, UP), (DOWN, UP))]:
            self.check_judged(6, pairs, finest.finest_rule(6, pairs))

    def test_the_examples_certificates(self):
        pairs = (((2, 1, 3), (2, 3, 1)),)
        self.assertIs(finest.arc_holds(3, pairs, (1, 3, (2,)), ("blind", 0, 0, (1,))), True)
        self.assertIs(finest.arc_holds(3, pairs, (1, 3, ()), ("counts", ((1, 2, ()), (1, 3, ()), (2, 3, ())))), True)


class ArcHoldsTest(unittest.TestCase):
    """[4.3]"""

    def all_forms(self, n, many_pairs):
        steps = [some for many in range(4) for some in itertools.product(range(n - 1), repeat=many)]
        places = itertools.product(range(-1, many_pairs + 1), range(-2, 4), steps)
        return [("counts", rule) for rule in plain.rules(n)] + [("blind", *told) for told in places]

    def test_just_the_right_ones_of_all_forms(self):
        for n in (2, 3):
            for pairs in [(), *((pair,) for pair in all_pairs(n)), *zip(all_pairs(n), all_pairs(n)[::-1])]:
                for arc in plain.arcs(n):
                    right = certificates(n, pairs, arc)
                    for thing in self.all_forms(n, len(pairs)):
                        self.assertIs(finest.arc_holds(n, pairs, arc, thing), thing in right, (pairs, arc, thing))

    def test_any_values(self):
        for pairs in (
            (), (((2, 1, 3), (2, 3, 1)),), (((1, 2, 3), (3, 2, 1)),),
            (((1, 2, 3), (1, 2, 3)), ((1, 3, 2), (2, 1, 3))),
        ):
            for arc in plain.arcs(3):
                check_holds(self, finest.arc_holds, (3, pairs, arc), certificates(3, pairs, arc), [])

    def test_all_rules_of_four_numbers(self):
        for pairs in [((UP[:4], UP[:4]),), *near_tuples(4, 10, 9)]:
            good = holding(4, pairs)
            for arc in plain.arcs(4):
                for rule in plain.rules(4):
                    expected = rule in good and arc in rule
                    self.assertIs(finest.arc_holds(4, pairs, arc, ("counts", rule)), expected)

    def test_all_ways_of_four_numbers(self):
        for pair in all_pairs(4)[::11]:
            low, high = plain.joined(pair)
            for arc, steps in itertools.product(plain.arcs(4), plain.ways_up(low, high)):
                for i, one in enumerate(plain.arcs_of_steps(low, steps)):
                    expected = plain.lies_within(one, arc)
                    self.assertIs(finest.arc_holds(4, (pair,), arc, ("blind", 0, i, steps)), expected)

    def test_steps_that_lead_elsewhere(self):
        # Of these only the last but one leads up all the way from the ascending row to the descending one.
        pairs, arc = (((1, 2, 3), (3, 2, 1)),), (1, 3, ())
        for steps, expected in (
            ((0, 1), False), ((0, 1, 0, 0), False), ((0, 1, 0, 0, 0), False), ((0, 0, 0, 1, 0), False),
            ((1, 0, 1), True), ((0, 0, 1, 0, 1), False),
        ):
            self.assertIs(finest.arc_holds(3, pairs, arc, ("blind", 0, 1, steps)), expected, steps)
        # The way goes from the row below both, not from one of the two rows.
        pairs = (((2, 1, 3), (1, 3, 2)),)
        self.assertIs(finest.arc_holds(3, pairs, (1, 3, ()), ("blind", 0, 0, (0, 1, 0))), True)
        self.assertIs(finest.arc_holds(3, pairs, (1, 3, ()), ("blind", 0, 0, (1, 0))), False)

    def test_six_numbers(self):
        pairs = ((UP, UP), (DOWN, (2, 1, 3, 4, 5, 6)))
        steps = plain.ways_up((2, 1, 3, 4, 5, 6), (6, 5, 2, 1, 3, 4))[0] + (3, 2, 4, 3, 2)
        self.assertEqual(plain.end_of((2, 1, 3, 4, 5, 6), steps), DOWN)
        arcs = plain.arcs_of_steps((2, 1, 3, 4, 5, 6), steps)
        self.assertEqual(len(steps), 14)
        for arc in plain.arcs(6)[::6]:
            right = [("blind", 1, i, steps) for i, one in enumerate(arcs) if plain.lies_within(one, arc)]
            others = [("blind", 1, i, steps) for i in range(-14, 15)] + [("blind", 0, i, steps) for i in range(15)]
            others += [("blind", 1, i, some) for i in (0, 5) for some in (steps[:-1], steps[1:], steps + (0,), ())]
            others += [("counts", rule) for rule in some_rules(6)]
            self.assertIs(right == [], arc == (1, 2, ()))
            check_holds(self, finest.arc_holds, (6, pairs, arc), right, others)

    def test_long_tuples_of_steps(self):
        pairs = ((UP, DOWN),)
        for steps in ((0,) * 60, (0, 1, 2, 3, 4) * 12, (4,) * 1999, tuple(range(60))):
            things = [("blind", 0, i, steps) for i in (0, 59)]
            check_told(self, finest.arc_holds, (6, pairs, (1, 2, ())), lambda thing: False, things)

    def test_a_row_with_itself(self):
        for n in (2, 3, 6):
            row = tuple(range(n, 0, -1))
            things = [("blind", 0, i, ()) for i in (-1, 0, 1)] + [("counts", (arc,)) for arc in plain.arcs(n)]
            things += [("counts", rule) for rule in some_rules(n)] + [("blind", 0, 0, (0, 0)), ("blind", 0, 0, (0,))]
            for arc in ((1, 2, ()), (1, n, ())):
                right = [thing for thing in things if plain.is_rule(n, thing[-1]) and arc in thing[-1]]
                for thing in things:
                    self.assertIs(finest.arc_holds(n, ((row, row),) * 4, arc, thing), thing in right, thing)


class WrongInputsTest(unittest.TestCase):
    def test_pairs(self):
        for n in (1, 3, 6):
            row = tuple(range(1, n + 1))
            for pairs in ((), ((row, row[::-1]),) * 4):
                check_wrong(self, finest.finest_rule, n, {"pairs": pairs}, {"pairs": (BadPairs, wrong_pairs(n))})

    def test_pairs_and_arcs(self):
        for n in (2, 3, 6):
            row = tuple(range(1, n + 1))
            wrong = {"pairs": (BadPairs, wrong_pairs(n)), "arc": (BadArc, wrong_arcs(n))}
            good = {"pairs": ((row, row[::-1]),), "arc": (1, 2, ())}
            check_wrong(self, finest.judge_arc, n, good, wrong)
            for thing in (("counts", ()), None, [], Own()):
                check_wrong(self, finest.arc_holds, n, {**good, "thing": thing}, wrong)

    def test_no_arc_of_one_number(self):
        wrong = {"pairs": (BadPairs, wrong_pairs(1)), "arc": (BadArc, wrong_arcs(1))}
        good = {"pairs": (((1,), (1,)),), "arc": None}
        check_wrong(self, finest.judge_arc, 1, good, {"arc": wrong["arc"]})
        for values in wrong["pairs"][1]:
            self.assertRaises(BadPairs, finest.judge_arc, 1, values, None)
            self.assertRaises(BadPairs, finest.arc_holds, 1, values, None, None)


if __name__ == "__main__":
    unittest.main()

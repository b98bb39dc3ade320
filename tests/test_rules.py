import itertools
import unittest

from keptarcs import rules
from keptarcs.errors import BadRule
from tests import plain
from tests.some_rules import drawn, few_wrong_rules, some_rules, wrong_rules
from tests.test_arcs import wrong_arcs
from tests.values import ANY, Own, check_holds, check_wrong, is_among, same, spoiled

TWO_RULES = (rules.rules_together, rules.rules_common, rules.is_finer)


def subsets(n):
    """All ascending tuples of arcs."""
    arcs = plain.arcs(n)
    return [some for many in range(len(arcs) + 1) for some in itertools.combinations(arcs, many)]


def drawn_tuples(n):
    return [drawn(n, many, seed) for many in (1, 2, 3, 5, 8, 13, 21, 34, 50) for seed in range(4)]


def certificates(n, some):
    return plain.lacking(n, some) or [("rule",)]


def wrong_ascending_arcs(n):
    found = [*ANY, [(1, 2, ())], *((arc,) for arc in wrong_arcs(n)), *(((1, 2, ()), arc) for arc in wrong_arcs(n))]
    found += [other for some in subsets(3)[::3] for other in spoiled(some)]
    found += [((2, 3, ()), (1, 2, ())), ((1, 2, ()),) * 2, ((1, 3, (2,)), (1, 3, ()))]
    return [thing for thing in found if not plain.is_ascending_arcs(n, thing)]


class RulesTest(unittest.TestCase):
    """[4.1]"""

    def test_all_rules(self):
        for n in range(1, 5):
            found = rules.all_rules(n)
            self.assertTrue(same(found, tuple(plain.rules(n))))
            self.assertEqual(list(found), [some for some in sorted(subsets(n)) if plain.is_rule(n, some)])

    def test_how_many_there_are(self):
        self.assertEqual([len(rules.all_rules(n)) for n in range(1, 5)], [1, 2, 7, 60])
        self.assertEqual([rules.many_rules(n) for n in range(1, 6)], [1, 2, 7, 60, 3444])
        self.assertEqual(len(plain.rules(5)), 3444)

    def test_is_rule(self):
        for n in range(1, 5):
            good = plain.rules(n)
            for thing in [*ANY, *subsets(n)]:
                self.assertIs(rules.is_rule(n, thing), is_among(thing, good), thing)
        things = [other for rule in plain.rules(3) for other in spoiled(rule)]
        things += [some for many in (2, 3) for some in itertools.product(plain.arcs(3), repeat=many)]
        for thing in things:
            self.assertIs(rules.is_rule(3, thing), is_among(thing, plain.rules(3)), thing)

    def test_is_rule_of_more_numbers(self):
        for n in (5, 6, 7):
            for rule in some_rules(n):
                self.assertIs(rules.is_rule(n, rule), True)
                self.assertIs(rules.is_rule(n, list(rule)), False)
            self.assertIs(rules.is_rule(n, tuple(plain.arcs(n + 1))), False)
        for thing in wrong_rules(6):
            self.assertIs(rules.is_rule(6, thing), False, thing)

    def test_judge_rule_gives_a_right_certificate(self):
        tuples = [(n, some) for n in range(1, 5) for some in subsets(n)]
        tuples += [(n, some) for n in (5, 6) for some in [*drawn_tuples(n), *some_rules(n)]]
        for n, some in tuples:
            found = rules.judge_rule(n, some)
            self.assertTrue(is_among(found, certificates(n, some)), (n, some, found))
            self.assertIs(rules.rule_holds(n, some, found), True)

    def test_rule_holds_just_for_the_right_ones_of_all_forms(self):
        for n in (1, 2, 3):
            for some in subsets(n):
                things = [("lacks", *two) for two in itertools.product(plain.arcs(n + 1), repeat=2)]
                check_holds(self, rules.rule_holds, (n, some), certificates(n, some), things)
        for n, some in [(4, some) for some in subsets(4)[::60]] + [(6, drawn(6, 12, 3)), (6, ((1, 6, (3,)),))]:
            right = certificates(n, some)
            for thing in [("rule",), *(("lacks", *two) for two in itertools.product(plain.arcs(n), repeat=2))]:
                self.assertIs(rules.rule_holds(n, some, thing), thing in right, (some, thing))

    def test_rule_holds_with_any_values(self):
        for n, some in ((6, ()), (6, tuple(plain.arcs(6))), (6, ((1, 3, (2,)), (4, 6, ()))), (5, ((1, 4, ()),))):
            check_holds(self, rules.rule_holds, (n, some), certificates(n, some), [])

    def test_no_arcs(self):
        for n in range(1, 7):
            self.assertEqual(rules.judge_rule(n, ()), ("rule",))
            self.assertEqual(rules.widest_rule(n, ()), tuple(plain.arcs(n)))
            self.assertEqual(rules.least_blind(n, tuple(plain.arcs(n))), ())
        self.assertEqual(rules.all_rules(1), ((),))


class WidestTest(unittest.TestCase):
    def test_widest_rule(self):
        tuples = [(n, some) for n in range(1, 5) for some in subsets(n)]
        tuples += [(n, some) for n in (5, 6) for some in [*drawn_tuples(n), *some_rules(n)]]
        for n, some in tuples:
            found = rules.widest_rule(n, some)
            self.assertTrue(same(found, plain.widest(n, some)), (n, some))
            self.assertTrue(plain.is_rule(n, found))

    def test_least_blind(self):
        some = [(n, rule) for n in range(1, 5) for rule in plain.rules(n)]
        some += [(5, rule) for rule in plain.rules(5)[::40]] + [(6, rule) for rule in some_rules(6)]
        for n, rule in some:
            found = rules.least_blind(n, rule)
            self.assertTrue(same(found, plain.least_blind(n, rule)), (n, rule))
            self.assertEqual(rules.widest_rule(n, found), rule)


class TwoRulesTest(unittest.TestCase):
    """[4.2], so far as rules alone are told."""

    def check_two(self, n, one, other):
        together = tuple(arc for arc in plain.arcs(n) if arc in one or arc in other)
        common = tuple(arc for arc in plain.arcs(n) if arc in one and arc in other)
        self.assertTrue(same(rules.rules_together(n, one, other), together))
        self.assertTrue(same(rules.rules_common(n, one, other), common))
        self.assertIs(rules.is_finer(n, one, other), together == one)

    def test_sum_and_common_part_and_finer(self):
        for n in range(1, 5):
            for one, other in itertools.product(plain.rules(n), repeat=2):
                self.check_two(n, one, other)
        for n in (5, 6):
            for one, other in itertools.product(some_rules(n), repeat=2):
                self.check_two(n, one, other)

    def test_they_are_rules_again(self):
        for one, other in itertools.product(plain.rules(4)[::3], plain.rules(4)):
            self.assertIn(rules.rules_together(4, one, other), plain.rules(4))
            self.assertIn(rules.rules_common(4, one, other), plain.rules(4))


class WrongInputsTest(unittest.TestCase):
    def test_ascending_tuples_of_arcs(self):
        for n in (1, 3, 6):
            wrong = {"arcs": (BadRule, wrong_ascending_arcs(n))}
            good = {"arcs": tuple(plain.arcs(n))[1:]}
            for function in (rules.judge_rule, rules.widest_rule):
                check_wrong(self, function, n, good, wrong)
            for thing in (("rule",), None, [], Own()):
                check_wrong(self, rules.rule_holds, n, {**good, "thing": thing}, wrong)

    def test_one_rule(self):
        for n in (1, 2, 3, 4):
            wrong = {"rule": (BadRule, wrong_rules(n))}
            check_wrong(self, rules.least_blind, n, {"rule": tuple(plain.arcs(n))}, wrong)
        wrong = {"rule": (BadRule, few_wrong_rules(6))}
        check_wrong(self, rules.least_blind, 6, {"rule": tuple(plain.arcs(6))}, wrong)

    def test_two_rules(self):
        for n, values in ((3, wrong_rules(3)), (6, few_wrong_rules(6))):
            wrong = {"one": (BadRule, values), "other": (BadRule, values[::-1])}
            for function in TWO_RULES:
                check_wrong(self, function, n, {"one": (), "other": tuple(plain.arcs(n))}, wrong)


if __name__ == "__main__":
    unittest.main()

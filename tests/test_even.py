import unittest

from keptarcs import even
from keptarcs.errors import BadRow, BadRule
from tests import plain
from tests.some_rules import drawn_full, few_wrong_rules, full_rules, is_full, neighbours, rules_of_all_kinds, trees
from tests.some_rules import wrong_rules
from tests.test_rows import wrong_rows
from tests.values import ANY, Own, check_holds, check_told, check_wrong, is_among, same, spoiled


def small_rules():
    """All rules for n up to 4, and some for 5."""
    found = [(n, rule) for n in range(1, 5) for rule in plain.rules(n)]
    return found + [(5, rule) for rule in rules_of_all_kinds(5)]


def small_full_rules():
    """All full rules for n up to 4, and some for 5."""
    found = [(n, rule) for n in range(1, 5) for rule in full_rules(n)]
    some = [rule for rule in rules_of_all_kinds(5) if is_full(5, rule)]
    return found + [(5, rule) for rule in [*some, *full_rules(5)[::120], *drawn_full(5, 10, 1)]]


def neighbours_counted(n, rule, row):
    """How many classes are reached by one counting exchange from any row of a class."""
    parts = plain.parts(n, rule)
    return len({
        parts[plain.exchanged(some, i)] for some in parts[row] for i in range(n - 1) if plain.arc_at(some, i) in rule
    })


def counts(n, rule):
    """A dict of the numbers of neighbours of the classes of all rows."""
    by_class = {some: neighbours_counted(n, rule, some[0]) for some in set(plain.parts(n, rule).values())}
    return {row: by_class[some] for row, some in plain.parts(n, rule).items()}


def other_arcs(n, rule):
    """The least blind arcs whose lot is neither () nor all numbers between."""
    return [(a, b, ahead) for a, b, ahead in plain.least_blind(n, rule) if 0 < len(ahead) < b - a - 1]


def certificates(n, rule):
    """All right certificates for a full rule."""
    rows = [row for row, many in counts(n, rule).items() if many != n - 1]
    return [("uneven", arc, row) for arc in other_arcs(n, rule) for row in rows] if rows else [("even",)]


class FullTest(unittest.TestCase):
    """[8.1]"""

    def test_is_full(self):
        for n, rule in small_rules():
            self.assertIs(even.is_full(n, rule), is_full(n, rule))

    def test_just_one_arc_is_blind(self):
        for n in range(2, 6):
            self.assertIs(even.is_full(n, tuple(plain.arcs(n))), True)
            self.assertIs(even.is_full(n, neighbours(n)), True)
            for arc in neighbours(n):
                self.assertIs(even.is_full(n, plain.widest(n, (arc,))), False)
        self.assertIs(even.is_full(1, ()), True)


class NeighboursTest(unittest.TestCase):
    """[8.2]"""

    def test_counted_one_by_one(self):
        for n, rule in small_rules():
            for row, many in counts(n, rule).items():
                self.assertTrue(same(even.many_neighbours(n, rule, row), many), (rule, row))

    def test_one_number(self):
        self.assertEqual(even.many_neighbours(1, (), (1,)), 0)
        self.assertEqual(even.judge_even(1, ()), ("even",))


class EvenTest(unittest.TestCase):
    """[8.2]"""

    def test_even_exactly_if_each_class_has_as_many_neighbours(self):
        told = {True: 0, False: 0}
        for n, rule in small_full_rules():
            expected = set(counts(n, rule).values()) <= {n - 1}
            self.assertIs(even.judge_even(n, rule) == ("even",), expected, rule)
            self.assertIs(even.even_holds(n, rule, ("even",)), expected)
            self.assertIs(other_arcs(n, rule) == [], expected)
            told[expected] += 1
        self.assertGreater(min(told.values()), 20)

    def test_judge_even_gives_a_right_certificate(self):
        for n, rule in small_full_rules():
            found = even.judge_even(n, rule)
            self.assertTrue(is_among(found, certificates(n, rule)), (rule, found))
            self.assertIs(even.even_holds(n, rule, found), True)

    def test_all_full_rules_of_five(self):
        for rule in full_rules(5)[::7]:
            found = even.judge_even(5, rule)
            self.assertIs(found == ("even",), other_arcs(5, rule) == [], rule)
            if found != ("even",):
                self.assertIn(found[1], other_arcs(5, rule))
                self.assertNotEqual(neighbours_counted(5, rule, found[2]), 4)

    def test_just_the_right_ones_of_all_forms(self):
        for n, rule in [(n, rule) for n in range(1, 5) for rule in full_rules(n)]:
            right = certificates(n, rule)
            things = [("even",), *(("uneven", arc, row) for arc in plain.arcs(n) for row in plain.rows(n))]
            for thing in things:
                self.assertIs(even.even_holds(n, rule, thing), thing in right, (rule, thing))

    def test_any_values(self):
        for n in range(1, 5):
            for rule in full_rules(n)[::5]:
                check_holds(self, even.even_holds, (n, rule), certificates(n, rule)[::7], [])

    def test_any_values_for_five_numbers(self):
        for rule in [tuple(plain.arcs(5)), trees(5), *drawn_full(5, 6, 2)]:
            right = certificates(5, rule)
            things = [*ANY, *spoiled(right[0]), *spoiled(right[-1]), ("even",), ("even", ()), right]
            things += [("uneven", arc, row) for arc in plain.arcs(5) for row in plain.rows(5)[::7]]
            check_told(self, even.even_holds, (5, rule), lambda thing: is_among(thing, right), things)


class WrongInputsTest(unittest.TestCase):
    def test_rules(self):
        for n, values in ((1, wrong_rules(1)), (3, wrong_rules(3)), (5, few_wrong_rules(5))):
            wrong = {"rule": (BadRule, values), "row": (BadRow, wrong_rows(n))}
            good = {"rule": tuple(plain.arcs(n)), "row": tuple(range(1, n + 1))}
            check_wrong(self, even.is_full, n, {"rule": ()}, wrong)
            check_wrong(self, even.many_neighbours, n, good, wrong)
            check_wrong(self, even.many_neighbours, n, {**good, "rule": ()}, wrong)

    def test_rules_that_are_not_full(self):
        for n in (2, 3, 4, 5):
            values = [rule for rule in rules_of_all_kinds(n) if not is_full(n, rule)]
            values += few_wrong_rules(n)
            wrong = {"rule": (BadRule, values)}
            check_wrong(self, even.judge_even, n, {"rule": tuple(plain.arcs(n))}, wrong)
            for thing in (("even",), None, [], Own()):
                check_wrong(self, even.even_holds, n, {"rule": tuple(plain.arcs(n)), "thing": thing}, wrong)


if __name__ == "__main__":
    unittest.main()

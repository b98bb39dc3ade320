import itertools
import unittest

from keptarcs import quotient
from keptarcs.errors import BadRow, BadRule
from tests import plain
from tests.some_rules import drawn_rows, few_wrong_rules, neighbours, some_rules, trees, wrong_rules
from tests.test_rows import wrong_rows
from tests.values import ANY, Own, check_holds, check_told, check_wrong, is_among, same, spoiled

UP, DOWN = (1, 2, 3, 4, 5, 6, 7), (7, 6, 5, 4, 3, 2, 1)
SEVEN_ROWS = [UP, DOWN, (2, 1, 3, 4, 5, 6, 7), (4, 1, 7, 2, 6, 3, 5), *drawn_rows(7, 4, 2)]
ONE_ROW = (quotient.lower_neighbours, quotient.upper_neighbours)
TWO_ROWS = (
    quotient.is_class_below, quotient.judge_class_below, quotient.least_class_above,
    quotient.greatest_class_below, quotient.are_neighbours,
)


def small_rules():
    """All rules for n up to 4."""
    return [(n, rule) for n in range(1, 5) for rule in plain.rules(n)]


def wide_rules():
    """Some rules for 5, 6 and 7, each with some rows."""
    found = [(n, rule, drawn_rows(n, 5, n)) for n in (5, 6) for rule in some_rules(n)]
    return found + [(7, rule, SEVEN_ROWS) for rule in some_rules(7)]


def firsts(n, rule):
    """The first rows of all classes."""
    return sorted({plain.first(n, rule, row) for row in plain.rows(n)})


def below_by_rows(n, rule):
    """All (first row, first row) of classes of which some row of the first is below some of the second."""
    return {
        (plain.first(n, rule, one), plain.first(n, rule, other))
        for one, other in itertools.product(plain.rows(n), repeat=2) if plain.is_below(one, other)
    }


def is_right(n, rule, one, other, thing):
    """Whether any value is a certificate for the classes of two rows."""
    if type(thing) is not tuple or len(thing) != 3:
        return False
    if same(thing[0], "below"):
        _, x, y = thing
        if not plain.is_row(n, x) or not plain.is_row(n, y) or not plain.is_below(x, y):
            return False
        return x in plain.parts(n, rule)[one] and y in plain.parts(n, rule)[other]
    pairs = plain.turned(plain.first(n, rule, one)) - plain.turned(plain.first(n, rule, other))
    return is_among(thing, [("pair", a, b) for a, b in pairs])


def lower_by_rows(n, rule, row):
    """The lower neighbours of a class, by all counting exchanges of all its rows that make falls rises."""
    found = {
        (plain.arc_at(some, i), plain.first(n, rule, plain.exchanged(some, i)))
        for some in plain.parts(n, rule)[row] for i in plain.falls(some) if plain.arc_at(some, i) in rule
    }
    return tuple(sorted(found))


def upper_by_rows(n, rule, row):
    found = {
        (plain.arc_at(some, i), plain.first(n, rule, plain.exchanged(some, i)))
        for some in plain.parts(n, rule)[row] for i in plain.rises(some) if plain.arc_at(some, i) in rule
    }
    return tuple(sorted(found))


class BelowTest(unittest.TestCase):
    """[6.1]"""

    def test_is_class_below(self):
        for n, rule in small_rules():
            below = below_by_rows(n, rule)
            for one, other in itertools.product(plain.rows(n), repeat=2):
                told = quotient.is_class_below(n, rule, one, other)
                self.assertIs(told, (plain.first(n, rule, one), plain.first(n, rule, other)) in below)
                self.assertIs(told, plain.is_below(plain.last(n, rule, one), plain.last(n, rule, other)))

    def test_more_numbers(self):
        for n, rule, rows in wide_rules():
            for one, other in itertools.product(rows, repeat=2):
                told = quotient.is_class_below(n, rule, one, other)
                self.assertIs(told, plain.is_below(plain.first(n, rule, one), plain.first(n, rule, other)))
                self.assertIs(told, plain.is_below(plain.last(n, rule, one), plain.last(n, rule, other)))

    def check_judged(self, n, rule, one, other):
        found = quotient.judge_class_below(n, rule, one, other)
        self.assertTrue(is_right(n, rule, one, other, found), (rule, one, other, found))
        self.assertIs(quotient.class_below_holds(n, rule, one, other, found), True)

    def test_judge_class_below_gives_a_right_certificate(self):
        for n, rule in small_rules():
            for one, other in itertools.product(plain.rows(n), plain.rows(n)[::n]):
                self.check_judged(n, rule, one, other)
        for n, rule, rows in wide_rules():
            for one, other in itertools.product(rows, repeat=2):
                self.check_judged(n, rule, one, other)

    def test_just_the_right_ones_of_all_forms(self):
        things = [("below", x, y) for x in plain.rows(3) for y in plain.rows(3)]
        things += [("pair", a, b) for a in range(5) for b in range(5)]
        for rule in plain.rules(3):
            for one, other in itertools.product(plain.rows(3), repeat=2):
                right = [thing for thing in things if is_right(3, rule, one, other, thing)]
                self.assertEqual(len({thing[0] for thing in right}), 1)
                for thing in things:
                    told = quotient.class_below_holds(3, rule, one, other, thing)
                    self.assertIs(told, thing in right, (rule, one, other, thing))

    def test_any_values(self):
        things = [("below", x, y) for x in plain.rows(3) for y in plain.rows(3)]
        things += [("pair", a, b) for a in range(5) for b in range(5)]
        rows = [(1, 2, 3), (2, 3, 1), (3, 1, 2), (3, 2, 1)]
        for rule in plain.rules(3):
            for one, other in itertools.product(rows, repeat=2):
                right = [thing for thing in things if is_right(3, rule, one, other, thing)]
                check_holds(self, quotient.class_below_holds, (3, rule, one, other), right, [])

    def test_any_values_for_seven_numbers(self):
        for rule in some_rules(7)[::2]:
            for one, other in ((UP, DOWN), (DOWN, UP), (SEVEN_ROWS[2], SEVEN_ROWS[3]), (SEVEN_ROWS[4], SEVEN_ROWS[5])):
                found = quotient.judge_class_below(7, rule, one, other)
                things = [*ANY[::3], found, *spoiled(found), ("below", one, other), ("below", other, one)]
                things += [("below", x, y) for x in SEVEN_ROWS for y in SEVEN_ROWS[::2]]
                things += [("pair", a, b) for a in range(9) for b in range(9)]
                args = (7, rule, one, other)
                check_told(self, quotient.class_below_holds, args, lambda thing: is_right(*args, thing), things)


class LeastAboveTest(unittest.TestCase):
    """[6.2]"""

    def test_by_a_look_at_all_classes(self):
        for n, rule in small_rules():
            below, rows = below_by_rows(n, rule), firsts(n, rule)
            for one, other in itertools.product(rows, repeat=2):
                above = [row for row in rows if (one, row) in below and (other, row) in below]
                (least,) = [row for row in above if all((row, some) in below for some in above)]
                under = [row for row in rows if (row, one) in below and (row, other) in below]
                (most,) = [row for row in under if all((some, row) in below for some in under)]
                self.assertTrue(same(quotient.least_class_above(n, rule, one, other), least))
                self.assertTrue(same(quotient.greatest_class_below(n, rule, one, other), most))

    def test_whichever_rows_are_taken(self):
        for n, rule in [(3, rule) for rule in plain.rules(3)] + [(4, rule) for rule in plain.rules(4)[::6]]:
            for one, other in itertools.product(plain.rows(n), repeat=2):
                low, high = plain.first(n, rule, one), plain.first(n, rule, other)
                for told in (quotient.least_class_above, quotient.greatest_class_below):
                    self.assertEqual(told(n, rule, one, other), told(n, rule, low, high))

    def test_that_of_the_least_row_above_and_of_the_greatest_row_below(self):
        for n, rule, rows in [(n, rule, rows[:4]) for n, rule, rows in wide_rules() if n < 7]:
            for one, other in itertools.product(rows, repeat=2):
                low, high = plain.joined((one, other))
                self.assertTrue(same(quotient.least_class_above(n, rule, one, other), plain.first(n, rule, high)))
                self.assertTrue(same(quotient.greatest_class_below(n, rule, one, other), plain.first(n, rule, low)))

    def test_seven_numbers(self):
        for rule in some_rules(7):
            for one, other in itertools.product(SEVEN_ROWS[3:6], repeat=2):
                low, high = plain.joined((one, other))
                self.assertTrue(same(quotient.least_class_above(7, rule, one, other), plain.first(7, rule, high)))
                self.assertTrue(same(quotient.greatest_class_below(7, rule, one, other), plain.first(7, rule, low)))
            for row in SEVEN_ROWS:
                self.assertEqual(quotient.least_class_above(7, rule, row, UP), plain.first(7, rule, row))
                self.assertEqual(quotient.greatest_class_below(7, rule, DOWN, row), plain.first(7, rule, row))


class NeighboursTest(unittest.TestCase):
    """[6.3]"""

    def check_neighbours(self, n, rule, row):
        lower, upper = quotient.lower_neighbours(n, rule, row), quotient.upper_neighbours(n, rule, row)
        self.assertTrue(same(lower, lower_by_rows(n, rule, row)), (rule, row))
        self.assertTrue(same(upper, upper_by_rows(n, rule, row)), (rule, row))
        low, high = plain.first(n, rule, row), plain.last(n, rule, row)
        self.assertEqual(tuple(arc for arc, _ in lower), plain.arcs_at(low, plain.falls(low)))
        self.assertEqual(tuple(arc for arc, _ in upper), plain.arcs_at(high, plain.rises(high)))

    def test_by_all_exchanges_of_all_rows_of_a_class(self):
        for n, rule in small_rules():
            for row in plain.rows(n):
                self.check_neighbours(n, rule, row)

    def test_more_numbers(self):
        for n, rule, rows in wide_rules():
            for row in rows:
                self.check_neighbours(n, rule, row)

    def test_are_neighbours(self):
        for n, rule in small_rules():
            lower = {row: [some for _, some in lower_by_rows(n, rule, row)] for row in firsts(n, rule)}
            for one, other in itertools.product(plain.rows(n)[::n // 2 or 1], plain.rows(n)):
                a, b = plain.first(n, rule, one), plain.first(n, rule, other)
                told = quotient.are_neighbours(n, rule, one, other)
                self.assertIs(told, a in lower[b] or b in lower[a], (rule, one, other))

    def test_are_neighbours_of_more_numbers(self):
        for n, rule, rows in wide_rules():
            for one, other in itertools.product(rows, rows + [plain.exchanged(row, 2) for row in rows]):
                lower = [row for _, row in lower_by_rows(n, rule, one)]
                upper = [row for _, row in upper_by_rows(n, rule, one)]
                told = quotient.are_neighbours(n, rule, one, other)
                self.assertIs(told, plain.first(n, rule, other) in lower + upper)

    def test_a_class_below_another_one_is_below_a_lower_neighbour(self):
        for n, rule in small_rules()[::3]:
            for one, other in itertools.product(firsts(n, rule), repeat=2):
                if one != other and quotient.is_class_below(n, rule, one, other):
                    lower = [row for _, row in quotient.lower_neighbours(n, rule, other)]
                    self.assertTrue(any(quotient.is_class_below(n, rule, one, row) for row in lower))

    def test_one_number(self):
        self.assertEqual(quotient.lower_neighbours(1, (), (1,)), ())
        self.assertEqual(quotient.upper_neighbours(1, (), (1,)), ())
        self.assertIs(quotient.are_neighbours(1, (), (1,), (1,)), False)
        self.assertEqual(quotient.least_class_above(1, (), (1,), (1,)), (1,))
        self.assertEqual(quotient.greatest_class_below(1, (), (1,), (1,)), (1,))
        self.assertEqual(quotient.judge_class_below(1, (), (1,), (1,)), ("below", (1,), (1,)))

    def test_a_class_is_no_neighbour_of_its_own(self):
        for rule in ((), trees(7), neighbours(7)):
            for row in SEVEN_ROWS:
                self.assertIs(quotient.are_neighbours(7, rule, row, row), False)
                self.assertIs(quotient.are_neighbours(7, rule, row, plain.first(7, rule, row)), False)


class WrongInputsTest(unittest.TestCase):
    def rules_and_rows(self):
        """Each n with a row and wrong arguments."""
        for n, values in ((1, wrong_rules(1)), (3, wrong_rules(3)), (7, few_wrong_rules(7))):
            rows = wrong_rows(n)
            wrong = {"rule": (BadRule, values), "row": (BadRow, rows), "one": (BadRow, rows)}
            yield n, tuple(range(1, n + 1)), {**wrong, "other": (BadRow, rows[::-1])}

    def test_one_row(self):
        for n, row, wrong in self.rules_and_rows():
            for rule in ((), tuple(plain.arcs(n))):
                for function in ONE_ROW:
                    check_wrong(self, function, n, {"rule": rule, "row": row}, wrong)

    def test_two_rows(self):
        for n, row, wrong in self.rules_and_rows():
            good = {"rule": tuple(plain.arcs(n)), "one": row, "other": row[::-1]}
            for function in TWO_ROWS:
                check_wrong(self, function, n, good, wrong)
            for thing in (("below", row, row), None, {}, Own()):
                check_wrong(self, quotient.class_below_holds, n, {**good, "thing": thing}, wrong)


if __name__ == "__main__":
    unittest.main()

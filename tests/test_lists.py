import math
import unittest

from keptarcs import lists
from keptarcs.errors import BadNumber, BadRow, BadRule
from tests import plain
from tests.some_rules import drawn_rows, few_wrong_rules, neighbours, rules_of_all_kinds, trees, wrong_rules
from tests.test_rows import wrong_rows
from tests.values import ANY, check_error, check_wrong, is_among, same, spoiled


def small_rules():
    """All rules for n up to 4, and some for 5."""
    found = [(n, rule) for n in range(1, 5) for rule in plain.rules(n)]
    return found + [(5, rule) for rule in [*rules_of_all_kinds(5), *plain.rules(5)[::200]]]


def wide_rules():
    return [(6, rule) for rule in rules_of_all_kinds(6)]


def below(n, rule):
    """The arcs of a rule that stay for n - 1."""
    return tuple(arc for arc in rule if arc[1] < n)


def groups(n, rule, row):
    """The rows with n put in at all places, from the left to the right, in their groups."""
    rows = [row[:k] + (n,) + row[k:] for k in range(n)]
    found = [[rows[0]]]
    for k in range(1, n):
        # Between these two rows n passes one number, by the exchange at k - 1.
        if plain.exchanged(rows[k], k - 1) != rows[k - 1]:
            raise AssertionError(rows)
        if plain.arc_at(rows[k], k - 1) in rule:
            found.append([])
        found[-1].append(rows[k])
    return found


def taken(n, group):
    """The row of a group that stands in the list."""
    at_ends = [row for row in group if row[-1] == n] + [row for row in group if row[0] == n]
    return at_ends[0] if at_ends else max(group, key=lambda row: row.index(n))


def built(n, rule):
    """The list of a rule, built by the words of [7.3], group by group."""
    if n == 1:
        return [(1,)]
    found = []
    for at, row in enumerate(built(n - 1, below(n, rule))):
        if (n - 1, n, ()) not in rule:
            found.append(row + (n,))
            continue
        rows = [taken(n, group) for group in groups(n, rule, row)]
        found += rows if at % 2 else rows[::-1]
    return found


def are_next(n, rule, one, other):
    """Whether a counting exchange leads from some row of one class to a row of the other one."""
    return any(
        plain.arc_at(row, i) in rule and plain.exchanged(row, i) in plain.parts(n, rule)[other]
        for row in plain.parts(n, rule)[one] for i in range(n - 1)
    )


class LesserRuleTest(unittest.TestCase):
    """[7.1]"""

    def test_arcs_with_their_upper_end_below_n(self):
        for n, rule in small_rules() + wide_rules():
            if n > 1:
                found = lists.lesser_rule(n, rule)
                self.assertTrue(same(found, below(n, rule)))
                self.assertTrue(plain.is_rule(n - 1, found))

    def test_two_numbers(self):
        for rule in ((), ((1, 2, ()),)):
            self.assertEqual(lists.lesser_rule(2, rule), ())


class ListTest(unittest.TestCase):
    """[7.2], [7.3]"""

    def test_built_group_by_group(self):
        for n, rule in small_rules() + wide_rules():
            self.assertTrue(same(lists.gone_through(n, rule), tuple(built(n, rule))), (n, rule))

    def test_each_class_has_just_one_row(self):
        for n, rule in small_rules() + wide_rules():
            parts = plain.parts(n, rule)
            found = [parts[row] for row in lists.gone_through(n, rule)]
            self.assertEqual(len(found), len(set(found)))
            self.assertEqual(set(found), set(parts.values()))

    def test_rows_that_follow_one_another_are_of_neighbours(self):
        for n, rule in small_rules() + wide_rules():
            rows = lists.gone_through(n, rule)
            for one, other in zip(rows, rows[1:]):
                self.assertTrue(are_next(n, rule, one, other), (rule, one, other))

    def test_known_numbers(self):
        for n, catalan in ((1, 1), (2, 2), (3, 5), (4, 14), (5, 42), (6, 132)):
            self.assertEqual(len(lists.gone_through(n, tuple(plain.arcs(n)))), math.factorial(n))
            self.assertEqual(len(lists.gone_through(n, trees(n))), catalan)
            self.assertEqual(len(lists.gone_through(n, neighbours(n))), 2 ** (n - 1))
            self.assertEqual(lists.gone_through(n, ()), (tuple(range(1, n + 1)),))

    def test_all_arcs_go_by_exchanges_of_neighbouring_numbers_in_rows(self):
        for n in range(2, 7):
            rows = lists.gone_through(n, tuple(plain.arcs(n)))
            for one, other in zip(rows, rows[1:]):
                self.assertIn(other, [plain.exchanged(one, i) for i in range(n - 1)])

    def test_blind_arc_of_the_last_two_numbers(self):
        for n in range(2, 7):
            rule = plain.widest(n, ((n - 1, n, ()),))
            lesser = lists.gone_through(n - 1, tuple(plain.arcs(n - 1)))
            self.assertEqual(lists.gone_through(n, rule), tuple(row + (n,) for row in lesser))

    def test_one_number(self):
        self.assertEqual(lists.gone_through(1, ()), ((1,),))
        self.assertEqual(lists.listed_row(1, (), (1,)), (1,))
        self.assertEqual(lists.place_in_list(1, (), (1,)), 0)
        self.assertEqual(lists.row_at(1, (), 0), (1,))


class ListedRowsTest(unittest.TestCase):
    """[7.3]"""

    def check_rows(self, n, rule, rows):
        places = {}
        for place, row in enumerate(built(n, rule)):
            places.update({some: (place, row) for some in plain.parts(n, rule)[row]})
        for row in rows:
            place, listed = places[row]
            self.assertTrue(same(lists.listed_row(n, rule, row), listed), (rule, row))
            self.assertTrue(same(lists.place_in_list(n, rule, row), place), (rule, row))

    def test_all_rows(self):
        for n in range(1, 5):
            for rule in plain.rules(n):
                self.check_rows(n, rule, plain.rows(n))

    def test_more_numbers(self):
        for n in (5, 6):
            for rule in rules_of_all_kinds(n):
                self.check_rows(n, rule, [tuple(range(1, n + 1)), tuple(range(n, 0, -1)), *drawn_rows(n, 12, n)])

    def test_each_position_gives_its_row(self):
        for n, rule in small_rules():
            rows = built(n, rule)
            for place, row in list(enumerate(rows))[::n]:
                self.assertTrue(same(lists.row_at(n, rule, place), row))
                self.assertEqual(lists.place_in_list(n, rule, row), place)

    def test_first_and_last_position_and_those_beyond(self):
        for n, rule in small_rules()[::3] + wide_rules():
            rows = built(n, rule)
            self.assertEqual(lists.row_at(n, rule, 0), rows[0])
            self.assertEqual(lists.row_at(n, rule, number=len(rows) - 1), rows[-1])
            for number in (-1, -len(rows), len(rows), len(rows) + 1, 10 ** 39, -10 ** 39):
                check_error(self, BadNumber, number, lambda: lists.row_at(n, rule, number))


class WrongInputsTest(unittest.TestCase):
    def test_rules(self):
        for n, values in ((1, wrong_rules(1)), (2, wrong_rules(2)), (3, wrong_rules(3)), (6, few_wrong_rules(6))):
            for function in (lists.gone_through, lists.lesser_rule):
                check_wrong(self, function, n, {"rule": tuple(plain.arcs(n))}, {"rule": (BadRule, values)})

    def test_rules_of_more_numbers(self):
        for n in range(1, 7):
            for rule in (tuple(plain.arcs(n + 1)), neighbours(n + 1), trees(n + 1)):
                check_error(self, BadRule, rule, lambda: lists.gone_through(n, rule))
                check_error(self, BadRule, rule, lambda: lists.lesser_rule(n, rule))
                check_error(self, BadRule, rule, lambda: lists.row_at(n, rule, None))

    def test_rows(self):
        for n, values in ((1, wrong_rules(1)), (3, wrong_rules(3)), (6, few_wrong_rules(6))):
            wrong = {"rule": (BadRule, values), "row": (BadRow, wrong_rows(n))}
            good = {"rule": tuple(plain.arcs(n)), "row": tuple(range(1, n + 1))}
            for function in (lists.listed_row, lists.place_in_list):
                check_wrong(self, function, n, good, wrong)

    def test_positions(self):
        for n, rule in ((1, ()), (2, ((1, 2, ()),)), (3, trees(3)), (4, neighbours(4)), (6, trees(6))):
            many = len(built(n, rule))
            numbers = [*ANY, *spoiled(1), True, False, "0", (0,), [0], -1, many, many + 1]
            numbers = [thing for thing in numbers if not is_among(thing, list(range(many)))]
            values = wrong_rules(n) if n < 4 else few_wrong_rules(n)
            wrong = {"rule": (BadRule, values), "number": (BadNumber, numbers)}
            check_wrong(self, lists.row_at, n, {"rule": rule, "number": 0}, wrong)


if __name__ == "__main__":
    unittest.main()

import itertools
import unittest

from keptarcs import classes
from keptarcs.errors import BadLot, BadRow, BadRule
from keptarcs.rows import greatest_below, least_above
from tests import plain
from tests.some_rules import drawn_rows, few_wrong_rules, neighbours, some_rules, trees, wrong_rules
from tests.test_lots import wrong_lots
from tests.test_rows import wrong_rows
from tests.values import ANY, Own, check_holds, check_told, check_wrong, is_among, same, spoiled

SEVEN_ROWS = [(1, 2, 3, 4, 5, 6, 7), (7, 6, 5, 4, 3, 2, 1), (4, 1, 7, 2, 6, 3, 5), *drawn_rows(7, 5, 1)]
ONE_ROW = (
    classes.first_row, classes.last_row, classes.judge_first, classes.way_down, classes.class_of,
    classes.lot_of_class,
)
TWO_ROWS = (classes.are_one, classes.judge_one)


def small_rules():
    """Rules whose classes are all looked through: all for n up to 4, and some for 5."""
    found = [(n, rule) for n in range(1, 5) for rule in plain.rules(n)]
    return found + [(5, rule) for rule in [*some_rules(5), *plain.rules(5)[::300]]]


def seven():
    """Rules and rows of 6 and of 7."""
    found = [(6, rule, row) for rule in some_rules(6) for row in drawn_rows(6, 4, len(rule))]
    return found + [(7, rule, row) for rule in some_rules(7) for row in SEVEN_ROWS]


def class_in(n, rule, row):
    return plain.parts(n, rule)[row]


def blind_falls(rule, row):
    return [i for i in plain.falls(row) if plain.arc_at(row, i) not in rule]


def lot_in(n, rule, row):
    """The arcs of the falls of the first row of a class."""
    first = plain.first(n, rule, row)
    return plain.arcs_at(first, plain.falls(first))


def is_way(n, rule, one, other, steps):
    """Whether any value is a way along blind exchanges from a row to another one."""
    if not plain.is_places(n, steps):
        return False
    row = one
    for i in steps:
        if plain.arc_at(row, i) in rule:
            return False
        row = plain.exchanged(row, i)
    return row == other


def is_right(n, rule, one, other, thing):
    """Whether any value is a certificate for two rows, by all rows of their classes."""
    if other in class_in(n, rule, one):
        return type(thing) is tuple and len(thing) == 2 and thing[0] == "ways" and is_way(n, rule, one, other, thing[1])
    return same(thing, ("lots", lot_in(n, rule, one), lot_in(n, rule, other)))


class FirstAndLastTest(unittest.TestCase):
    """[5.1]"""

    def check_class(self, n, rule, row):
        first, last = plain.first(n, rule, row), plain.last(n, rule, row)
        self.assertTrue(same(classes.first_row(n, rule, row), first), (rule, row))
        self.assertTrue(same(classes.last_row(n, rule, row), last), (rule, row))
        steps = classes.way_down(n, rule, row)
        self.assertTrue(plain.is_places(n, steps))
        for k, i in enumerate(steps):
            self.assertIn(i, blind_falls(rule, plain.end_of(row, steps[:k])))
        self.assertEqual(plain.end_of(row, steps), first)

    def test_the_rows_below_and_above_all_rows_of_a_class(self):
        for n, rule in small_rules():
            for row in plain.rows(n):
                self.check_class(n, rule, row)

    def test_six_and_seven_numbers(self):
        for n, rule, row in seven():
            self.check_class(n, rule, row)

    def test_a_class_is_all_rows_between(self):
        for n, rule in small_rules():
            rows = plain.rows(n)
            for some in set(plain.parts(n, rule).values()):
                found = classes.class_of(n, rule, some[len(some) // 2])
                self.assertTrue(same(found, some))
                first, last = classes.first_row(n, rule, some[0]), classes.last_row(n, rule, some[0])
                between = [row for row in rows if plain.is_below(first, row) and plain.is_below(row, last)]
                self.assertEqual(list(some), between)

    def test_class_of_every_row(self):
        for n in range(1, 4):
            for rule in plain.rules(n):
                for row in plain.rows(n):
                    self.assertTrue(same(classes.class_of(n, rule, row), class_in(n, rule, row)))

    def certificates(self, rule, row):
        return [("fall", i) for i in blind_falls(rule, row)] or [("first",)]

    def test_judge_first_gives_a_right_certificate(self):
        some = [(n, rule, row) for n, rule in small_rules() for row in plain.rows(n)]
        for n, rule, row in some + seven():
            found = classes.judge_first(n, rule, row)
            self.assertTrue(is_among(found, self.certificates(rule, row)), (rule, row))
            self.assertIs(classes.first_holds(n, rule, row, found), True)

    def test_first_holds_just_for_the_right_ones(self):
        things = [("first",), *(("fall", i) for i in range(-3, 8)), ("fall", True), ("fall", False), ("fall",)]
        for n, rule in [(n, rule) for n in (1, 2, 3) for rule in plain.rules(n)] + [(5, trees(5))]:
            for row in plain.rows(n)[::n]:
                check_holds(self, classes.first_holds, (n, rule, row), self.certificates(rule, row), things)
        for n, rule, row in seven():
            for thing in things:
                expected = is_among(thing, self.certificates(rule, row))
                self.assertIs(classes.first_holds(n, rule, row, thing), expected, (rule, row, thing))

    def test_first_rows_of_falls_that_count_alone(self):
        for n, rule in small_rules():
            for row in plain.rows(n):
                expected = plain.first(n, rule, row) == row
                self.assertIs(classes.judge_first(n, rule, row) == ("first",), expected)


class OneTest(unittest.TestCase):
    """[4.2], [5.2]"""

    def test_are_one_if_blind_exchanges_lead_from_one_to_the_other(self):
        for n in range(1, 5):
            for rule in plain.rules(n):
                for one, other in itertools.product(plain.rows(n), repeat=2):
                    expected = other in class_in(n, rule, one)
                    self.assertIs(classes.are_one(n, rule, one, other), expected)
        for n, rule, row in seven():
            for other in [row, *class_in(n, rule, row)[::100], *drawn_rows(n, 3, 4)]:
                expected = other in class_in(n, rule, row)
                self.assertIs(classes.are_one(n, rule, row, other), expected)

    def test_least_above_and_greatest_below_stay_one(self):
        for n, rule in [(n, rule) for n in range(1, 4) for rule in plain.rules(n)] + [(4, trees(4))]:
            for some, others in itertools.product(set(plain.parts(n, rule).values()), repeat=2):
                both = list(itertools.product(some, others))
                for told in (least_above, greatest_below):
                    first = told(n, *both[0])
                    for one, other in both:
                        self.assertIs(classes.are_one(n, rule, first, told(n, one, other)), True)

    def test_rows_that_are_one_by_a_finer_rule_are_one(self):
        for finer, rule in itertools.product(plain.rules(4)[::5], plain.rules(4)):
            if set(rule) <= set(finer):
                for row in plain.rows(4):
                    other = classes.first_row(4, finer, row)
                    self.assertIs(classes.are_one(4, rule, row, other), True)

    def check_judged(self, n, rule, one, other):
        found = classes.judge_one(n, rule, one, other)
        self.assertTrue(is_right(n, rule, one, other, found), (rule, one, other, found))
        self.assertIs(classes.one_holds(n, rule, one, other, found), True)
        if found[0] == "ways":
            self.assertLessEqual(len(found[1]), 60)

    def test_judge_one_gives_a_right_certificate(self):
        for n in range(1, 4):
            for rule in plain.rules(n):
                for one, other in itertools.product(plain.rows(n), repeat=2):
                    self.check_judged(n, rule, one, other)
        for rule in plain.rules(4)[::4]:
            for one, other in itertools.product(plain.rows(4), repeat=2):
                self.check_judged(4, rule, one, other)
        for n, rule, row in seven():
            for other in [row, *class_in(n, rule, row)[::100], *drawn_rows(n, 3, 4)]:
                self.check_judged(n, rule, row, other)

    def test_one_holds_just_for_the_right_ones_of_all_forms(self):
        steps = [some for many in range(4) for some in itertools.product(range(-1, 3), repeat=many)]
        things = [("ways", some) for some in steps]
        things += [("lots", one, other) for one in plain.lots(3) for other in plain.lots(3)]
        for rule in plain.rules(3):
            for one, other in itertools.product(plain.rows(3), repeat=2):
                for thing in things:
                    expected = is_right(3, rule, one, other, thing)
                    self.assertIs(classes.one_holds(3, rule, one, other, thing), expected, (rule, one, other, thing))

    def test_one_holds_with_any_values(self):
        rows = [(1, 2, 3), (2, 1, 3), (2, 3, 1), (3, 2, 1)]
        for rule in plain.rules(3):
            for one, other in itertools.product(rows, repeat=2):
                found = classes.judge_one(3, rule, one, other)
                lots = ("lots", lot_in(3, rule, one), lot_in(3, rule, other))
                ways = [("ways", some) for some in ((), (0,), (1,), (0, 0), (1, 1), (0, 1, 0), (0, 1, 0, 1, 0, 1))]
                things = [*ANY, found, *spoiled(found), lots, *spoiled(lots), ("lots", *lots[:0:-1]), *ways]
                self.check_any(3, rule, one, other, things)

    def check_any(self, n, rule, one, other, things):
        args = (n, rule, one, other)
        check_told(self, classes.one_holds, args, lambda thing: is_right(*args, thing), things)

    def test_sixty_steps(self):
        up, down = SEVEN_ROWS[:2]
        there = (0, 1, 0, 2, 1, 0, 3, 2, 1, 0, 4, 3, 2, 1, 0, 5, 4, 3, 2, 1, 0)
        for one, other, steps in (
            (up, up, (0, 0) * 30), (up, up, (0, 1, 2, 2, 1, 0) * 10),
            (up, up, there + there[::-1] + (4, 4) * 9), (up, down, there + there[::-1] + there[:18]),
            (up, down, there + (3, 3) * 19), (up, up, there + (3, 3) * 19), (down, up, there[::-1] + (5,) * 38),
            (down, up, there[::-1] + (5,) * 39), (up, plain.exchanged(up, 5), (5,) * 59), (up, up, (6,) * 60),
            (up, up, (-1,) * 60), (up, up, (0, 0) * 29 + (0, False)), (up, up, (0, 0) * 999),
        ):
            for rule in ((), tuple(plain.arcs(7)), neighbours(7), plain.widest(7, ((1, 2, ()),))):
                self.check_any(7, rule, one, other, [("ways", steps), ("ways", list(steps)), ("ways",) + steps])

    def test_no_steps(self):
        for n in range(1, 8):
            rows = drawn_rows(n, 2, n)
            for rule in some_rules(n):
                self.assertIs(classes.one_holds(n, rule, rows[0], rows[0], ("ways", ())), True)
                self.assertIs(classes.one_holds(n, rule, rows[0], rows[1], ("ways", ())), rows[0] == rows[1])
                self.assertIs(classes.one_holds(n, rule, rows[0], rows[0], ("lots", (), ())), False)


class LotsOfClassesTest(unittest.TestCase):
    """[5.2]"""

    def test_classes_are_one_for_one_with_the_lots_of_counting_arcs(self):
        for n, rule in small_rules():
            expected = [lot for lot in plain.lots(n) if set(lot) <= set(rule)]
            firsts = {plain.first(n, rule, row) for row in plain.rows(n)}
            self.assertTrue(same(classes.classes(n, rule), tuple(sorted(firsts))))
            self.assertTrue(same(classes.many_classes(n, rule), len(expected)))
            found = [classes.lot_of_class(n, rule, row) for row in classes.classes(n, rule)]
            self.assertEqual(sorted(found), expected)
            for lot in expected:
                row = classes.row_of_lot(n, rule, lot)
                self.assertIn(row, firsts)
                self.assertTrue(same(plain.arcs_at(row, plain.falls(row)), lot))

    def test_lot_of_class(self):
        some = [(n, rule, row) for n, rule in small_rules() for row in plain.rows(n)]
        for n, rule, row in some + seven():
            self.assertTrue(same(classes.lot_of_class(n, rule, row), lot_in(n, rule, row)))

    def test_row_of_lot_of_more_numbers(self):
        for n, rule, row in seven():
            first = plain.first(n, rule, row)
            self.assertTrue(same(classes.row_of_lot(n, rule, lot_in(n, rule, row)), first))

    def test_how_many_there_are(self):
        for n, factorial, catalan in ((1, 1, 1), (2, 2, 2), (3, 6, 5), (4, 24, 14), (5, 120, 42)):
            self.assertEqual(classes.many_classes(n, tuple(plain.arcs(n))), factorial)
            self.assertEqual(classes.many_classes(n, trees(n)), catalan)
            self.assertEqual(classes.many_classes(n, neighbours(n)), 2 ** (n - 1))
            self.assertEqual(classes.many_classes(n, ()), 1)

    def test_one_number(self):
        self.assertEqual(classes.classes(1, ()), ((1,),))
        self.assertEqual(classes.class_of(1, (), (1,)), ((1,),))
        self.assertEqual(classes.first_row(1, (), (1,)), (1,))
        self.assertEqual(classes.last_row(1, (), (1,)), (1,))
        self.assertEqual(classes.judge_first(1, (), (1,)), ("first",))
        self.assertEqual(classes.way_down(1, (), (1,)), ())
        self.assertEqual(classes.judge_one(1, (), (1,), (1,)), ("ways", ()))
        self.assertEqual(classes.lot_of_class(1, (), (1,)), ())
        self.assertEqual(classes.row_of_lot(1, (), ()), (1,))


class WrongInputsTest(unittest.TestCase):
    def rules_and_rows(self):
        """Each n with right arguments and wrong ones."""
        for n, values in ((1, wrong_rules(1)), (3, wrong_rules(3)), (7, few_wrong_rules(7))):
            row = tuple(range(1, n + 1))
            rows = wrong_rows(n)
            wrong = {"rule": (BadRule, values), "row": (BadRow, rows), "one": (BadRow, rows)}
            yield n, row, {**wrong, "other": (BadRow, rows[::-1])}

    def test_one_row(self):
        for n, row, wrong in self.rules_and_rows():
            for rule in ((), tuple(plain.arcs(n))):
                for function in ONE_ROW:
                    if n < 7 or function is not classes.class_of:
                        check_wrong(self, function, n, {"rule": rule, "row": row}, wrong)
                for thing in (("first",), None, [], Own()):
                    check_wrong(self, classes.first_holds, n, {"rule": rule, "row": row, "thing": thing}, wrong)

    def test_two_rows(self):
        for n, row, wrong in self.rules_and_rows():
            good = {"rule": tuple(plain.arcs(n)), "one": row, "other": row[::-1]}
            for function in TWO_ROWS:
                check_wrong(self, function, n, good, wrong)
            for thing in (("ways", ()), None, {}, Own()):
                check_wrong(self, classes.one_holds, n, {**good, "thing": thing}, wrong)

    def test_rules_alone(self):
        for n in (1, 3, 5):
            for function in (classes.classes, classes.many_classes):
                values = wrong_rules(n) if n < 5 else few_wrong_rules(n)
                check_wrong(self, function, n, {"rule": tuple(plain.arcs(n))}, {"rule": (BadRule, values)})

    def test_lots(self):
        for n in (1, 2, 3):
            wrong = {"rule": (BadRule, wrong_rules(n)), "lot": (BadLot, wrong_lots(n))}
            check_wrong(self, classes.row_of_lot, n, {"rule": tuple(plain.arcs(n)), "lot": ()}, wrong)
        for n, rule in [(3, rule) for rule in plain.rules(3)] + [(4, trees(4)), (4, neighbours(4))]:
            blind = [lot for lot in plain.lots(n) if not set(lot) <= set(rule)]
            check_wrong(self, classes.row_of_lot, n, {"rule": rule, "lot": ()}, {"lot": (BadLot, blind)})

    def test_lots_of_seven(self):
        rule = tuple(plain.arcs(7))
        wrong = [*ANY[:10], neighbours(7)[::-1], neighbours(8), list(neighbours(7)), rule, ((1, 3, ()), (2, 4, ()))]
        wrong += [((True, 2, ()),), ((1, 2, ()),) * 2]
        good = {"rule": rule, "lot": neighbours(7)}
        check_wrong(self, classes.row_of_lot, 7, good, {"rule": (BadRule, few_wrong_rules(7)), "lot": (BadLot, wrong)})
        blind = [((1, 7, (2, 3, 4, 5, 6)),), ((1, 2, ()), (2, 4, (3,)))]
        check_wrong(self, classes.row_of_lot, 7, {"rule": trees(7), "lot": ()}, {"lot": (BadLot, blind)})


if __name__ == "__main__":
    unittest.main()

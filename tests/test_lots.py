import itertools
import math
import unittest

from keptarcs import lots
from keptarcs.errors import BadLot, BadRow
from tests import plain
from tests.test_arcs import wrong_arcs
from tests.test_rows import LONG, wrong_rows
from tests.values import ANY, Own, check_holds, check_wrong, is_among, same, spoiled

# Rows, arcs and tuples of twenty.
TWENTY = [tuple(p for p in row if p <= 20) for row in LONG]
UP, DOWN = TWENTY[0], TWENTY[-1]
STEPS = tuple((a, a + 1, ()) for a in range(1, 20))
FROM_ONE = tuple((1, b, ()) for b in range(2, 21))


def single(n, arc):
    """The single row of an arc by its falls."""
    (found,) = [row for row in plain.rows(n) if plain.arcs_at(row, plain.falls(row)) == (arc,)]
    return found


def made(n, some):
    """The least row above all of some rows."""
    return plain.least([row for row in plain.rows(n) if all(plain.is_below(one, row) for one in some)])


def wrong_arc_tuples(n):
    found = [arcs for arcs in ANY if arcs != ()] + [[(1, 2, ())], ((1, 2, ()), None), None]
    return found + [(arc,) for arc in wrong_arcs(n)] + [((1, 2, ()), arc) for arc in wrong_arcs(n)]


def wrong_lots(n):
    good = plain.lots(n)
    found = [*ANY, *wrong_arc_tuples(n), *(other for lot in good for other in spoiled(lot))]
    found += [((1, 2, ()), (1, 3, ())), ((1, 3, ()), (2, 3, ())), ((2, 3, ()), (1, 2, ())), ((1, 2, ()),) * 2]
    return [thing for thing in found if not is_among(thing, good)]


def wrong_row_tuples(n):
    row = tuple(range(1, n + 1))
    found = [some for some in ANY if some != ()]
    return found + [[row], row, *((row, other) for other in wrong_rows(n))]


class LotsTest(unittest.TestCase):
    """[3.1]"""

    def test_all_lots(self):
        for n in range(1, 6):
            self.assertTrue(same(lots.all_lots(n), tuple(plain.lots(n))))
            self.assertEqual(len(lots.all_lots(n)), math.factorial(n))

    def test_all_lots_by_trying_all_tuples(self):
        found = [
            some for many in range(4) for some in itertools.product(plain.arcs(3), repeat=many)
            if plain.lot_certificates(some) == [("lot",)]
        ]
        self.assertEqual(sorted(found), list(lots.all_lots(3)))

    def test_is_lot(self):
        for n in range(1, 5):
            good = plain.lots(n)
            things = [*ANY, *good, *(other for lot in good for other in spoiled(lot))]
            things += itertools.combinations(plain.arcs(n), 2)
            things += itertools.product(plain.arcs(n), repeat=2)
            for thing in things:
                self.assertIs(lots.is_lot(n, thing), is_among(thing, good), thing)

    def tuples_of_arcs(self):
        """All tuples of at most three arcs of 3, and some longer and wider ones."""
        for many in range(4):
            for some in itertools.product(plain.arcs(3), repeat=many):
                yield 3, some
        for some in itertools.product(plain.arcs(4), repeat=2):
            yield 4, some
        for some in itertools.combinations(plain.arcs(5)[::2], 3):
            yield 5, some
        yield 1, ()
        yield 3, ((1, 3, ()), (1, 2, ()), (1, 3, ()), (1, 2, ()))
        yield 4, ((2, 4, ()), (1, 3, ()), (2, 4, ()), (1, 3, ()))

    def test_judge_lot_gives_a_right_certificate(self):
        for n, some in self.tuples_of_arcs():
            found = lots.judge_lot(n, some)
            right = plain.lot_certificates(some)
            self.assertTrue(is_among(found, right), (n, some, found))
            self.assertIs(lots.lot_holds(n, some, found), True)

    def test_lot_holds_just_for_the_right_ones_of_all_forms(self):
        for some in itertools.product(plain.arcs(3), repeat=2):
            right = plain.lot_certificates(some)
            things = [("lot",), *(("order", i) for i in range(-3, 4))]
            for one, other in itertools.product(plain.arcs(3), repeat=2):
                things.append(("ends", one, other))
                things += [("cross", one, other, p, q) for p in range(5) for q in range(5)]
            for thing in things:
                self.assertIs(lots.lot_holds(3, some, thing), thing in right, (some, thing))

    def test_lot_holds_with_any_values(self):
        crossed = ((1, 3, ()), (2, 4, ()))
        for n, some in (
            (1, ()), (3, ()), (3, ((1, 2, ()),)), (3, ((1, 2, ()), (2, 3, ()))), (3, ((1, 2, ()), (1, 3, ()))),
            (3, ((1, 2, ()),) * 2), (3, ((1, 3, ()), (1, 2, ()), (1, 3, ()))), (4, crossed), (4, crossed[::-1]),
            (4, crossed * 2), (4, ((2, 4, (3,)), (1, 4, (2,)))), (4, ((1, 4, (2,)), (1, 4, (3,)))),
        ):
            things = [("lot",), *(("order", i) for i in range(-3, 4))]
            things += [("ends", one, other) for one in some for other in some]
            things += [("cross", one, other, 3, 2) for one in some for other in some]
            things += [("cross", *crossed, p, q) for p in range(5) for q in range(5)]
            things += [("order", True), ("order", False), ("order",), ("ends",), ("cross", 3, 2)]
            check_holds(self, lots.lot_holds, (n, some), plain.lot_certificates(some), things)

    def test_twenty_arcs(self):
        for some in (
            STEPS, FROM_ONE, STEPS[::-1], STEPS + STEPS[-1:], FROM_ONE + FROM_ONE[:1], (STEPS[0],) * 20,
            STEPS[:10] + FROM_ONE[:10], tuple((a, 20, ()) for a in range(1, 20)),
            tuple((a, a + 3, (a + 1,)) for a in range(1, 18)), ((1, 20, tuple(range(2, 20))),) * 20,
        ):
            right = plain.lot_certificates(some)
            self.assertIn(lots.judge_lot(20, some), right)
            self.assertIs(lots.is_lot(20, some), right == [("lot",)])
            for thing in right:
                self.assertIs(lots.lot_holds(20, some, thing), True)
            for thing in [other for thing in right[::40] for other in spoiled(thing)]:
                self.assertIs(lots.lot_holds(20, some, thing), is_among(thing, right))

    def test_a_long_tuple_is_no_lot(self):
        arcs = [(a, b, ()) for a in range(1, 20) for b in range(a + 1, 21)]
        self.assertIs(lots.is_lot(20, tuple(arcs)), False)


class LotsAndRowsTest(unittest.TestCase):
    """[3.2]"""

    def test_the_row_of_falls_and_the_row_of_rises_of_every_lot(self):
        for n in range(1, 6):
            by_falls = {plain.arcs_at(row, plain.falls(row)): row for row in plain.rows(n)}
            by_rises = {plain.arcs_at(row, plain.rises(row)): row for row in plain.rows(n)}
            for lot in plain.lots(n):
                self.assertTrue(same(lots.row_of_falls(n, lot), by_falls[lot]))
                self.assertTrue(same(lots.row_of_rises(n, lot), by_rises[lot]))

    def test_the_lots_of_every_row(self):
        for row in [row for n in range(1, 6) for row in plain.rows(n)] + TWENTY:
            n = len(row)
            falls, rises = lots.lot_of_falls(n, row), lots.lot_of_rises(n, row)
            self.assertTrue(same(falls, plain.arcs_at(row, plain.falls(row))))
            self.assertTrue(same(rises, plain.arcs_at(row, plain.rises(row))))
            self.assertIs(lots.is_lot(n, falls), True)
            self.assertIs(lots.is_lot(n, rises), True)

    def test_twenty_numbers(self):
        for row in TWENTY:
            self.assertEqual(lots.row_of_falls(20, lots.lot_of_falls(20, row)), row)
            self.assertEqual(lots.row_of_rises(20, lots.lot_of_rises(20, row)), row)
        self.assertEqual(lots.row_of_falls(20, STEPS), DOWN)
        self.assertEqual(lots.row_of_rises(20, STEPS), UP)
        self.assertEqual(lots.row_of_falls(20, ((1, 20, (7,)),)), (7, 20, 1, *range(2, 7), *range(8, 20)))

    def test_the_empty_lot(self):
        for n in (1, 2, 5, 20):
            ascending = tuple(range(1, n + 1))
            self.assertEqual(lots.row_of_falls(n, ()), ascending)
            self.assertEqual(lots.row_of_rises(n, ()), ascending[::-1])
            self.assertEqual(lots.judge_lot(n, ()), ("lot",))
            self.assertEqual(lots.lot_of_falls(n, ascending), ())


class MakingTest(unittest.TestCase):
    """[3.3]"""

    def certificates(self, n, row, some):
        parted = plain.turned(row) ^ plain.turned(made(n, some))
        return [("pair", a, b) for a, b in sorted(parted)] or [("makes",)]

    def test_judge_making_gives_a_right_certificate(self):
        for row in plain.rows(3):
            for many in range(4):
                for some in itertools.product(plain.rows(3), repeat=many):
                    found = lots.judge_making(3, row, some)
                    self.assertTrue(is_among(found, self.certificates(3, row, some)), (row, some))
                    self.assertIs(lots.making_holds(3, row, some, found), True)
        for some in itertools.combinations(plain.rows(4), 2):
            for row in plain.rows(4)[::5] + [made(4, some)]:
                found = lots.judge_making(4, row, some)
                self.assertTrue(is_among(found, self.certificates(4, row, some)), (row, some))

    def test_making_holds_just_for_the_right_ones(self):
        others = [("makes",), ("pair",), *(("pair", a, b) for a in range(5) for b in range(5))]
        for row in plain.rows(3):
            for some in ((), (row,), (row, row), ((2, 1, 3),), ((2, 1, 3), (1, 3, 2)), ((2, 3, 1), (1, 3, 2)) * 9):
                right = self.certificates(3, row, some)
                check_holds(self, lots.making_holds, (3, row, some), right, others)

    def test_no_rows_make_the_ascending_row(self):
        for n in (1, 2, 3, 20):
            self.assertEqual(lots.judge_making(n, tuple(range(1, n + 1)), ()), ("makes",))
        self.assertEqual(lots.judge_making(2, (2, 1), ()), ("pair", 1, 2))

    def test_the_single_rows_make_the_row_and_are_all_needed(self):
        for n in range(1, 5):
            for row in plain.rows(n):
                singles = tuple(single(n, arc) for arc in plain.arcs_at(row, plain.falls(row)))
                self.assertIs(lots.making_holds(n, row, singles, ("makes",)), True)
                for i in range(len(singles)):
                    fewer = singles[:i] + singles[i + 1:]
                    self.assertIs(lots.making_holds(n, row, fewer, ("makes",)), False)

    def test_each_single_row_is_below_some_row_that_helps_to_make(self):
        for some in itertools.combinations(plain.rows(4), 2):
            row = lots.row_of_falls(4, lots.lot_of_falls(4, made(4, some)))
            self.assertEqual(lots.judge_making(4, row, some), ("makes",))
            for arc in lots.lot_of_falls(4, row):
                self.assertTrue(any(plain.is_below(single(4, arc), one) for one in some))

    def test_twenty_rows(self):
        self.assertEqual(lots.judge_making(20, DOWN, tuple(TWENTY) * 2), ("makes",))
        self.assertEqual(lots.judge_making(20, UP, (UP,) * 20), ("makes",))
        steps = [(*range(1, a), a + 1, a, *range(a + 2, 21)) for a in range(1, 20)]
        self.assertEqual(lots.judge_making(20, DOWN, (*steps, steps[0])), ("makes",))
        self.assertEqual(lots.judge_making(20, DOWN, (*steps[:-1], UP, UP))[0], "pair")
        row = (20, 19, *range(1, 19))
        for a, b in plain.number_pairs(20):
            told = lots.making_holds(20, row, (steps[0], steps[18]) * 10, ("pair", a, b))
            self.assertIs(told, (a, b) == (1, 2) or b > 18 and a < 19)


class WrongInputsTest(unittest.TestCase):
    def test_tuples_of_arcs(self):
        wrong = {"arcs": (BadLot, wrong_arc_tuples(3))}
        check_wrong(self, lots.judge_lot, 3, {"arcs": ()}, wrong)
        for thing in (("lot",), None, [], Own()):
            check_wrong(self, lots.lot_holds, 3, {"arcs": (), "thing": thing}, wrong)

    def test_lots(self):
        for n in (1, 2, 3):
            for function in (lots.row_of_falls, lots.row_of_rises):
                check_wrong(self, function, n, {"lot": ()}, {"lot": (BadLot, wrong_lots(n))})

    def test_lots_of_twenty(self):
        wrong = [STEPS[::-1], FROM_ONE, list(STEPS), STEPS + STEPS[-1:], ((True, 2, ()), *STEPS[1:])]
        wrong += [((1, 3, ()), (2, 4, ())), ((20, 21, ()),), ((1, 20, ()), (2, 20, ()))]
        for function in (lots.row_of_falls, lots.row_of_rises):
            check_wrong(self, function, 20, {"lot": STEPS}, {"lot": (BadLot, wrong)})

    def test_rows(self):
        for n in (1, 3, 20):
            for function in (lots.lot_of_falls, lots.lot_of_rises):
                good = {"row": tuple(range(1, n + 1))}
                check_wrong(self, function, n, good, {"row": (BadRow, wrong_rows(n))})

    def test_making(self):
        wrong = {"row": (BadRow, wrong_rows(3)), "rows": (BadLot, wrong_row_tuples(3))}
        good = {"row": (2, 3, 1), "rows": ((2, 1, 3), (1, 3, 2))}
        check_wrong(self, lots.judge_making, 3, good, wrong)
        for thing in (("makes",), None, {}, Own()):
            check_wrong(self, lots.making_holds, 3, {**good, "thing": thing}, wrong)


if __name__ == "__main__":
    unittest.main()

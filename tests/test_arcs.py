import itertools
import unittest

from keptarcs import arcs
from keptarcs.errors import BadArc, BadNumber, BadRow
from tests import plain
from tests.test_rows import DOWN, LONG, UP, wrong_numbers, wrong_rows
from tests.values import ANY, Own, check_holds, check_wrong, is_among, same, spoiled

# Arcs of 40: the longest ones, and such as cross others or share ends with them.
LONG_ARCS = [
    (1, 40, ()), (1, 40, tuple(range(2, 40))), (1, 40, tuple(range(2, 40, 2))), (1, 2, ()), (39, 40, ()),
    (5, 33, (7, 8, 20)), (6, 40, (7, 9, 20, 34)), (20, 21, ()), (2, 39, (3, 20, 38)), (3, 20, (4,)),
]
TWO_ARCS = (arcs.lies_within, arcs.judge_crossing)


def wrong_arcs(n):
    found = [*ANY, *spoiled((1, n, tuple(range(2, n)))), *spoiled((1, 2, ())), *spoiled((1, 3, (2,)))]
    found += [(1, n + 1, ()), (0, n, ()), (n, 1, ()), (n, n, ()), (1, n, (1,)), (1, n, (n,))]
    found += [(1, n, (3, 2)), (1, n, (2, 2)), (1, n, [2]), (1, n, None), (True, n, ()), (1, n, (True,))]
    return [thing for thing in found if not plain.is_arc(n, thing)]


class ArcsTest(unittest.TestCase):
    """[2.1]"""

    def test_is_arc(self):
        for n in range(1, 6):
            good = plain.arcs(n)
            things = [*ANY, *good, *(other for arc in good for other in spoiled(arc))]
            things += [
                (a, b, ahead) for a in range(n + 2) for b in range(n + 2)
                for ahead in ((), (2,), (2, 3), (3, 2), (1, 2), (2, n))
            ]
            for thing in things:
                self.assertIs(arcs.is_arc(n, thing), is_among(thing, good), thing)

    def test_is_arc_of_forty(self):
        for arc in LONG_ARCS:
            self.assertIs(arcs.is_arc(40, arc), True)
            self.assertIs(arcs.is_arc(arc[1] - 1, arc), False)
        for thing in wrong_arcs(40):
            self.assertIs(arcs.is_arc(40, thing), False, thing)

    def test_all_arcs(self):
        for n in range(1, 9):
            self.assertTrue(same(arcs.all_arcs(n), tuple(plain.arcs(n))))
            self.assertEqual(len(arcs.all_arcs(n)), 2 ** n - n - 1)

    def test_arcs_of_places(self):
        for row in [row for n in range(1, 6) for row in plain.rows(n)] + LONG:
            n = len(row)
            for i in range(n - 1):
                arc = arcs.arc_at(n, row, i)
                self.assertTrue(same(arc, plain.arc_at(row, i)))
                self.assertEqual(arcs.arc_at(n, plain.exchanged(row, i), i), arc)
            self.assertTrue(same(arcs.arcs_of_falls(n, row), plain.arcs_at(row, plain.falls(row))))
            self.assertTrue(same(arcs.arcs_of_rises(n, row), plain.arcs_at(row, plain.rises(row))))

    def test_one_number(self):
        self.assertEqual(arcs.all_arcs(1), ())
        self.assertEqual(arcs.arcs_of_falls(1, (1,)), ())
        self.assertEqual(arcs.arcs_of_rises(1, (1,)), ())
        wrong = {"row": (BadRow, wrong_rows(1)), "i": (BadNumber, [0, *wrong_numbers(1)])}
        check_wrong(self, arcs.arc_at, 1, {"row": (1,), "i": 0}, wrong)
        check_wrong(self, arcs.single_row, 1, {"arc": None}, {"arc": (BadArc, wrong_arcs(1))})

    def test_ascending_and_descending_row_of_forty(self):
        neighbours = tuple((a, a + 1, ()) for a in range(1, 40))
        self.assertEqual(arcs.arcs_of_falls(40, DOWN), neighbours)
        self.assertEqual(arcs.arcs_of_rises(40, UP), neighbours)
        self.assertEqual(arcs.arcs_of_rises(40, DOWN), ())
        self.assertEqual(arcs.arcs_of_falls(40, UP), ())


class WithinTest(unittest.TestCase):
    """[2.2]"""

    def test_within(self):
        for n in range(1, 6):
            for arc in plain.arcs(n):
                within = [other for other in plain.arcs(n) if plain.lies_within(other, arc)]
                self.assertTrue(same(arcs.arcs_within(n, arc), tuple(within)))
                for other in plain.arcs(n):
                    self.assertIs(arcs.lies_within(n, other, arc), other in within)

    def test_within_arcs_of_forty(self):
        for arc in LONG_ARCS:
            within = arcs.arcs_within(40, arc)
            a, b, _ = arc
            self.assertEqual(len(within), (b - a) * (b - a + 1) // 2)
            self.assertEqual(list(within), sorted(set(within)))
            self.assertTrue(all(plain.lies_within(other, arc) for other in within))
        for one, other in itertools.product(LONG_ARCS, repeat=2):
            self.assertIs(arcs.lies_within(40, one, other), plain.lies_within(one, other))


class SingleRowTest(unittest.TestCase):
    """[2.3]"""

    def test_the_least_of_all_rows_with_a_fall_of_this_arc(self):
        for n in range(2, 6):
            for arc in plain.arcs(n):
                falling = [row for row in plain.rows(n) if arc in plain.arcs_at(row, plain.falls(row))]
                single = arcs.single_row(n, arc)
                self.assertTrue(same(single, plain.least(falling)))
                alone = [row for row in falling if len(plain.falls(row)) == 1]
                self.assertEqual([single], alone)

    def test_single_rows_of_forty(self):
        for arc in LONG_ARCS:
            single = arcs.single_row(40, arc)
            self.assertEqual(sorted(single), list(UP))
            self.assertEqual(plain.arcs_at(single, plain.falls(single)), (arc,))
        self.assertEqual(arcs.single_row(40, (1, 40, ())), (40, *UP[:-1]))
        self.assertEqual(arcs.single_row(40, (1, 40, tuple(range(2, 40)))), (*UP[1:], 1))


class CrossingTest(unittest.TestCase):
    """[2.4]"""

    def test_judge_crossing_gives_a_right_certificate(self):
        for n in range(1, 6):
            for one, other in itertools.product(plain.arcs(n), repeat=2):
                found = arcs.judge_crossing(n, one, other)
                right = plain.crossings(one, other) or [("apart",)]
                self.assertTrue(is_among(found, right), (one, other))
                self.assertIs(arcs.crossing_holds(n, one, other, found), True)

    def test_crossing_holds_just_for_the_right_ones(self):
        others = [("apart",), ("cross",), *(("cross", p, q) for p in range(6) for q in range(6))]
        for one, other in itertools.product(plain.arcs(4), repeat=2):
            for thing in others:
                right = plain.crossings(one, other) or [("apart",)]
                self.assertIs(arcs.crossing_holds(4, one, other, thing), thing in right)
        for one, other in (
            ((1, 3, ()), (2, 4, ())), ((2, 4, ()), (1, 3, ())), ((1, 3, (2,)), (2, 4, ())),
            ((1, 4, (2,)), (1, 4, (3,))), ((1, 2, ()), (3, 4, ())), ((1, 2, ()), (1, 2, ())),
        ):
            right = plain.crossings(one, other) or [("apart",)]
            check_holds(self, arcs.crossing_holds, (4, one, other), right, others)

    def test_crossing_from_the_number_one(self):
        # Here p is 1, which True must not stand for.
        one, other = (1, 3, ()), (1, 2, ())
        self.assertEqual(plain.crossings(one, other), [])
        check_holds(self, arcs.crossing_holds, (3, one, other), [("apart",)], [("cross", 1, 2)])

    def test_forty_numbers(self):
        for one, other in itertools.product(LONG_ARCS, repeat=2):
            right = plain.crossings(one, other) or [("apart",)]
            self.assertIn(arcs.judge_crossing(40, one, other), right)
            for thing in [("apart",), *(("cross", p, q) for p in range(0, 42, 3) for q in range(42))]:
                self.assertIs(arcs.crossing_holds(40, one, other, thing), thing in right)


class WrongInputsTest(unittest.TestCase):
    def test_rows(self):
        for n in (1, 3, 40):
            for function in (arcs.arcs_of_falls, arcs.arcs_of_rises):
                good = {"row": tuple(range(1, n + 1))}
                check_wrong(self, function, n, good, {"row": (BadRow, wrong_rows(n))})

    def test_arc_at(self):
        for n, row in ((2, (2, 1)), (3, (2, 3, 1)), (40, LONG[4])):
            wrong = {"row": (BadRow, wrong_rows(n)), "i": (BadNumber, wrong_numbers(n))}
            check_wrong(self, arcs.arc_at, n, {"row": row, "i": 0}, wrong)

    def test_one_arc(self):
        for n in (2, 3, 40):
            for function in (arcs.single_row, arcs.arcs_within):
                check_wrong(self, function, n, {"arc": (1, 2, ())}, {"arc": (BadArc, wrong_arcs(n))})

    def test_two_arcs(self):
        for n in (3, 40):
            wrong = {"one": (BadArc, wrong_arcs(n)), "other": (BadArc, wrong_arcs(n)[::-1])}
            good = {"one": (1, 3, (2,)), "other": (2, 3, ())}
            for function in TWO_ARCS:
                check_wrong(self, function, n, good, wrong)
            for thing in (("apart",), None, {}, Own()):
                check_wrong(self, arcs.crossing_holds, n, {**good, "thing": thing}, wrong)


if __name__ == "__main__":
    unittest.main()

import itertools
import math
import unittest

from keptarcs import rows
from keptarcs.errors import BadNumber, BadPairs, BadRow
from tests import plain
from tests.values import ANY, Own, check_holds, check_wrong, is_among, same, spoiled

# As 41 is prime, each of these is a row of 40.
LONG = [tuple(k * p % 41 for p in range(1, 41)) for k in (1, 2, 3, 7, 12, 19, 20, 22, 33, 40)]
UP, DOWN = LONG[0], LONG[-1]

TWO_ROWS = (
    rows.is_below, rows.judge_below, rows.distance, rows.least_above, rows.greatest_below,
)


def wrong_rows(n):
    row = tuple(range(n, 0, -1))
    found = [*ANY, *spoiled(row), tuple(range(n)), tuple(range(1, n + 2)), (1,) * n]
    return [thing for thing in found if not plain.is_row(n, thing)]


def wrong_numbers(n):
    found = [*ANY, *spoiled(1), -1, n - 1, n, n + 1, "0", 10 ** 39]
    return [thing for thing in found if not is_among(thing, list(range(n - 1)))]


def wrong_pairs(n):
    good = [tuple(sorted(plain.turned(row))) for row in plain.rows(n)]
    found = [*ANY, *(other for pairs in good for other in spoiled(pairs))]
    found += [((1, 3),), ((1, 2), (2, 3)), ((2, 3), (1, 3)), ((2, 1),), ((0, 1),), ((n, n + 1),), ((1, 1),)]
    return [thing for thing in found if not is_among(thing, good)]


class RowsTest(unittest.TestCase):
    """[1.1]"""

    def test_is_row(self):
        for n in range(1, 5):
            good = plain.rows(n)
            things = [*ANY, *good, *(other for row in good for other in spoiled(row))]
            for thing in [*things, *itertools.product(range(n + 2), repeat=n)]:
                self.assertIs(rows.is_row(n, thing), is_among(thing, good), thing)

    def test_is_row_of_forty(self):
        for row in LONG:
            self.assertIs(rows.is_row(40, row), True)
            self.assertIs(rows.is_row(39, row), False)
        for thing in wrong_rows(40):
            self.assertIs(rows.is_row(40, thing), False)

    def test_all_rows(self):
        for n in range(1, 6):
            self.assertTrue(same(rows.all_rows(n), tuple(plain.rows(n))))
            self.assertEqual(len(rows.all_rows(n)), math.factorial(n))

    def test_turned_pairs(self):
        for row in [row for n in range(1, 6) for row in plain.rows(n)] + LONG:
            pairs = rows.turned_pairs(len(row), row)
            self.assertTrue(same(pairs, tuple(sorted(plain.turned(row)))), row)

    def test_mirror(self):
        for row in [row for n in range(1, 6) for row in plain.rows(n)] + LONG:
            n = len(row)
            other = rows.mirror(n, row)
            self.assertEqual(other, tuple(reversed(row)))
            self.assertEqual(plain.turned(other), set(plain.number_pairs(n)) - plain.turned(row))

    def test_one_number(self):
        self.assertEqual(rows.all_rows(1), ((1,),))
        self.assertEqual(rows.turned_pairs(1, (1,)), ())
        self.assertEqual(rows.mirror(1, (1,)), (1,))
        self.assertEqual(rows.row_by_pairs(1, ()), (1,))
        self.assertEqual(rows.judge_below(1, (1,), (1,)), ("below",))
        self.assertEqual(rows.distance(1, (1,), (1,)), 0)
        self.assertEqual(rows.least_above(1, (1,), (1,)), (1,))
        self.assertEqual(rows.greatest_below(1, (1,), (1,)), (1,))

    def test_no_exchange_of_one_number(self):
        check_wrong(self, rows.exchanged, 1, {"row": (1,), "i": 0}, {"i": (BadNumber, [0, 1, -1, None])})


class BelowTest(unittest.TestCase):
    """[1.2]"""

    def test_is_below(self):
        for n in range(1, 5):
            for one, other in itertools.product(plain.rows(n), repeat=2):
                self.assertIs(rows.is_below(n, one, other), plain.is_below(one, other))

    def certificates(self, one, other):
        pairs = sorted(plain.turned(one) - plain.turned(other))
        return [("pair", a, b) for a, b in pairs] or [("below",)]

    def test_judge_below_gives_a_right_certificate(self):
        for n in range(1, 5):
            for one, other in itertools.product(plain.rows(n), repeat=2):
                found = rows.judge_below(n, one, other)
                self.assertTrue(is_among(found, self.certificates(one, other)), (one, other))
                self.assertIs(rows.below_holds(n, one, other, found), True)

    def test_below_holds_just_for_the_right_ones(self):
        others = [("below",), ("pair",), *(("pair", a, b) for a in range(5) for b in range(5))]
        for one, other in itertools.product(plain.rows(3), repeat=2):
            right = self.certificates(one, other)
            check_holds(self, rows.below_holds, (3, one, other), right, others)

    def test_forty_numbers(self):
        for one, other in itertools.product(LONG, repeat=2):
            parted = plain.turned(one) - plain.turned(other)
            self.assertIs(rows.is_below(40, one, other), not parted)
            found = rows.judge_below(40, one, other)
            self.assertTrue(is_among(found, self.certificates(one, other)))
            for thing in [("below",), ("pair", 1, 2), ("pair", 39, 40), ("pair", 7, 30)]:
                right = thing[1:] in parted or not parted and thing == ("below",)
                self.assertIs(rows.below_holds(40, one, other, thing), right)
        right = [("pair", a, b) for a, b in plain.number_pairs(40)]
        self.assertTrue(all(rows.below_holds(40, DOWN, UP, thing) for thing in right))
        for thing in spoiled(right[-1]):
            self.assertIs(rows.below_holds(40, DOWN, UP, thing), is_among(thing, right))

    def test_exchanged(self):
        for row in [row for n in range(1, 6) for row in plain.rows(n)] + LONG:
            n = len(row)
            for i in range(n - 1):
                other = rows.exchanged(n, row, i)
                self.assertEqual(other, plain.exchanged(row, i))
                self.assertEqual(plain.turned(row) ^ plain.turned(other), {tuple(sorted(row[i:i + 2]))})

    def test_distance_is_the_least_number_of_exchanges(self):
        for n in range(1, 6):
            for one in plain.rows(n):
                for other, least in plain.distances(one).items():
                    self.assertTrue(same(rows.distance(n, one, other), least))

    def test_distance_of_forty_numbers(self):
        self.assertEqual(rows.distance(40, UP, DOWN), 780)
        for one, other in itertools.product(LONG, repeat=2):
            parted = plain.turned(one) ^ plain.turned(other)
            self.assertEqual(rows.distance(40, one, other), len(parted))


class LeastAboveTest(unittest.TestCase):
    """[1.3]"""

    def test_the_least_row_of_all_that_are_above_both(self):
        for n in range(1, 5):
            for one, other in itertools.product(plain.rows(n), repeat=2):
                above = [
                    row for row in plain.rows(n)
                    if plain.is_below(one, row) and plain.is_below(other, row)
                ]
                self.assertTrue(same(rows.least_above(n, one, other), plain.least(above)))

    def test_the_greatest_row_of_all_that_are_below_both(self):
        for n in range(1, 5):
            for one, other in itertools.product(plain.rows(n), repeat=2):
                below = [
                    row for row in plain.rows(n)
                    if plain.is_below(row, one) and plain.is_below(row, other)
                ]
                self.assertTrue(same(rows.greatest_below(n, one, other), plain.greatest(below)))

    def check_by_reaching(self, n, one, other):
        """The turned pairs are those of numbers that steps along pairs of both join."""
        above = rows.least_above(n, one, other)
        joined = plain.reached(n, plain.turned(one) | plain.turned(other))
        self.assertEqual(plain.turned(above), joined)
        below = rows.greatest_below(n, one, other)
        joined = plain.reached(n, plain.turned(one[::-1]) | plain.turned(other[::-1]))
        self.assertEqual(plain.turned(below[::-1]), joined)

    def test_five_numbers(self):
        some = plain.rows(5)
        for one, other in itertools.product(some[::3], some[::5]):
            self.check_by_reaching(5, one, other)

    def test_forty_numbers(self):
        for one, other in itertools.combinations(LONG[1:-1], 2):
            self.check_by_reaching(40, one, other)
        for row in LONG:
            self.assertEqual(rows.least_above(40, row, rows.mirror(40, row)), DOWN)
            self.assertEqual(rows.greatest_below(40, row, rows.mirror(40, row)), UP)
            self.assertEqual(rows.least_above(40, row, row), row)
            self.assertEqual(rows.greatest_below(40, DOWN, row), row)

    def test_which_sets_of_pairs_are_those_of_rows(self):
        for n in range(1, 5):
            pairs = plain.number_pairs(n)
            rows_by_pairs = {tuple(sorted(plain.turned(row))): row for row in plain.rows(n)}
            for many in range(len(pairs) + 1):
                for some in itertools.combinations(pairs, many):
                    if some in rows_by_pairs:
                        self.assertTrue(same(rows.row_by_pairs(n, some), rows_by_pairs[some]))
                    else:
                        self.assertRaises(BadPairs, rows.row_by_pairs, n, some)

    def test_row_by_pairs_of_long_rows(self):
        for row in LONG:
            pairs = tuple(sorted(plain.turned(row)))
            self.assertEqual(rows.row_by_pairs(40, pairs), row)
            if row != UP:
                wrong = [pairs[::-1], list(pairs), pairs + pairs[-1:], ((True, 2),) + pairs[1:]]
                wrong += [pairs + ((40, 41),), ((0, 1),) + pairs]
                check_wrong(self, rows.row_by_pairs, 40, {"pairs": pairs}, {"pairs": (BadPairs, wrong)})


class WrongInputsTest(unittest.TestCase):
    def test_rows(self):
        for n in (1, 3, 40):
            row = tuple(range(1, n + 1))
            for function in (rows.turned_pairs, rows.mirror):
                check_wrong(self, function, n, {"row": row}, {"row": (BadRow, wrong_rows(n))})

    def test_exchanged(self):
        for n, row in ((2, (2, 1)), (3, (2, 3, 1)), (40, LONG[4])):
            wrong = {"row": (BadRow, wrong_rows(n)), "i": (BadNumber, wrong_numbers(n))}
            check_wrong(self, rows.exchanged, n, {"row": row, "i": 0}, wrong)

    def test_two_rows(self):
        wrong = {"one": (BadRow, wrong_rows(3)), "other": (BadRow, wrong_rows(3)[::-1])}
        for function in TWO_ROWS:
            check_wrong(self, function, 3, {"one": (2, 3, 1), "other": (3, 1, 2)}, wrong)

    def test_below_holds(self):
        wrong = {"one": (BadRow, wrong_rows(3)), "other": (BadRow, wrong_rows(3)[::-1])}
        for thing in (("below",), None, [], Own()):
            good = {"one": (2, 3, 1), "other": (3, 1, 2), "thing": thing}
            check_wrong(self, rows.below_holds, 3, good, wrong)

    def test_row_by_pairs(self):
        for n in (1, 2, 3, 4):
            check_wrong(self, rows.row_by_pairs, n, {"pairs": ()}, {"pairs": (BadPairs, wrong_pairs(n))})

    def test_rows_of_another_length(self):
        for function in TWO_ROWS:
            good = {"one": (1, 2), "other": (2, 1)}
            wrong = {"one": (BadRow, [(1, 2, 3), (1,)]), "other": (BadRow, [(3, 2, 1), ()])}
            check_wrong(self, function, 2, good, wrong)


if __name__ == "__main__":
    unittest.main()

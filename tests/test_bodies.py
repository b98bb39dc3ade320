import functools
import itertools
import math
import random
import unittest

from keptarcs import bodies
from keptarcs.errors import BadArc, BadRow, BadRule, BadWeights
from tests import plain
from tests.some_rules import drawn_full, drawn_rows, few_wrong_rules, neighbours, rules_of_all_kinds, trees, wrong_rules
from tests.test_arcs import wrong_arcs
from tests.test_rows import wrong_rows
from tests.values import ANY, YARDS, Own, check_told, check_wrong, is_among, same, spoiled

UP, DOWN = (1, 2, 3, 4, 5), (5, 4, 3, 2, 1)


@functools.cache
def matchings(arc):
    """All matchings of an arc, by all choices of numbers from its lower to its upper end."""
    a, b, ahead = arc
    numbers = range(a, b + 1)
    some = [found for many in range(0, b - a + 2, 2) for found in itertools.combinations(numbers, many)]
    return sorted(
        found for found in some
        if all(p == a or p in ahead for p in found[::2])
        and all(p == b or (a < p and p not in ahead) for p in found[1::2])
    )


def worth(matching, weights):
    return sum(weights[p - 1] for p in matching[::2]) - sum(weights[p - 1] for p in matching[1::2])


def places(row):
    return tuple(row.index(p) for p in range(1, len(row) + 1))


@functools.cache
def best(arc, row):
    """The one matching of greatest worth for the places of a row, by all matchings."""
    worths = [worth(matching, places(row)) for matching in matchings(arc)]
    (only,) = [found for found, many in zip(matchings(arc), worths) if many == max(worths)]
    return only


@functools.cache
def corner(rule, row):
    """The corner of a row, number by number."""
    found = [0] * len(row)
    for arc in rule:
        for p in best(arc, row)[::2]:
            found[p - 1] += 1
        for p in best(arc, row)[1::2]:
            found[p - 1] -= 1
    return tuple(found)


def corners(n, rule):
    return {corner(rule, row) for row in plain.rows(n)}


def dot(weights, point):
    return sum(one * other for one, other in zip(weights, point))


def greatest(rule, weights):
    """The greatest worth, by all matchings."""
    return sum(max(worth(matching, weights) for matching in matchings(arc)) for arc in rule)


@functools.cache
def bounds(n, rule):
    """The greatest worth for each ascending tuple of numbers but (), by all corners."""
    found = {}
    for many in range(1, n + 1):
        for lot in itertools.combinations(range(1, n + 1), many):
            weights = [int(p in lot) for p in range(1, n + 1)]
            found[lot] = max(dot(weights, point) for point in corners(n, rule))
    return found


def certificates(n, rule, point):
    """All right certificates for a point."""
    rows = [("corner", row) for row in plain.rows(n) if corner(rule, row) == point]
    lots = [
        ("outside", lot) for lot, bound in bounds(n, rule).items()
        if sum(point[p - 1] for p in lot) > bound or (len(lot) == n and sum(point) != 0)
    ]
    return rows + lots or [("within",)]


def small_rules():
    """All rules for n up to 4, and some for 5."""
    found = [(n, rule) for n in range(1, 5) for rule in plain.rules(n)]
    return found + [(5, rule) for rule in [*rules_of_all_kinds(5)[::3], *plain.rules(5)[::900]]]


def some_weights(n, seed):
    draw = random.Random(seed)
    found = [(0,) * n, (1,) * n, tuple(range(n)), tuple(range(n, 0, -1)), (999999,) * (n - 1) + (-999999,)]
    found += [tuple(draw.randint(-999999, 999999) for _ in range(n)) for _ in range(3)]
    return found + [tuple(draw.randint(-2, 2) for _ in range(n)) for _ in range(6)]


def points(n, rule, seed):
    """Points that are corners, within, outside, and with a sum other than 0."""
    draw = random.Random(seed)
    some = sorted(corners(n, rule))
    found = [*draw.sample(some, min(5, len(some))), (0,) * n, (1,) * n, (999999,) + (-999999,) + (0,) * (n - 2)]
    for point in draw.sample(some, min(5, len(some))):
        i, k = draw.randrange(n), draw.randrange(n)
        moved = list(point)
        moved[i] += 1
        found.append(tuple(moved))
        moved[k] -= 1
        found.append(tuple(moved))
    for one, other in itertools.combinations(draw.sample(some, min(4, len(some))), 2):
        if all((a + b) % 2 == 0 for a, b in zip(one, other)):
            found.append(tuple((a + b) // 2 for a, b in zip(one, other)))
    return [point for point in found if len(point) == n]


class MatchingsTest(unittest.TestCase):
    """[11.1]"""

    def test_by_all_choices(self):
        for n in range(1, 7):
            for arc in plain.arcs(n):
                self.assertTrue(same(bodies.matchings(n, arc), tuple(matchings(arc))), arc)
                self.assertEqual(bodies.matchings(n, arc)[0], ())

    def test_best_matching(self):
        for n in range(1, 6):
            for arc, row in itertools.product(plain.arcs(n), plain.rows(n)):
                self.assertTrue(same(bodies.best_matching(n, arc, row), best(arc, row)), (arc, row))
        for arc, row in itertools.product(plain.arcs(6)[::3], drawn_rows(6, 20, 6)):
            self.assertTrue(same(bodies.best_matching(6, arc, row), best(arc, row)), (arc, row))


class CornersTest(unittest.TestCase):
    """[11.2]"""

    def test_number_by_number(self):
        for n, rule in small_rules():
            for row in plain.rows(n):
                self.assertTrue(same(bodies.corner(n, rule, row), corner(rule, row)), (rule, row))

    def test_two_rows_have_one_corner_exactly_if_they_are_one(self):
        for n, rule in small_rules():
            rows = {}
            for row in plain.rows(n):
                rows.setdefault(bodies.corner(n, rule, row), []).append(row)
            self.assertEqual({tuple(some) for some in rows.values()}, set(plain.parts(n, rule).values()))

    def test_all_corners(self):
        for n, rule in small_rules():
            self.assertTrue(same(bodies.corners(n, rule), tuple(sorted(corners(n, rule)))))

    def test_corners_of_neighbours(self):
        for n, rule in small_rules():
            for row in plain.rows(n):
                for i in plain.rises(row):
                    a, b, _ = arc = plain.arc_at(row, i)
                    if arc in rule:
                        upper, lower = corner(rule, plain.exchanged(row, i)), bodies.corner(n, rule, row)
                        moved = [one - other for one, other in zip(upper, lower)]
                        self.assertGreater(moved[a - 1], 0)
                        expected = {a: moved[a - 1], b: -moved[a - 1]}
                        self.assertEqual(moved, [expected.get(p, 0) for p in range(1, n + 1)])

    def test_one_number(self):
        self.assertEqual(bodies.corner(1, (), (1,)), (0,))
        self.assertEqual(bodies.corners(1, ()), ((0,),))
        self.assertEqual(bodies.greatest_worth(1, (), (-7,)), 0)
        self.assertEqual(bodies.judge_point(1, (), (0,)), ("corner", (1,)))
        self.assertEqual(bodies.judge_point(1, (), (2,)), ("outside", (1,)))
        self.assertEqual(bodies.judge_point(1, (), (-2,)), ("outside", (1,)))


class GreatestWorthTest(unittest.TestCase):
    """[11.3]"""

    def test_by_all_matchings_and_by_all_corners(self):
        for n, rule in small_rules():
            for weights in some_weights(n, len(rule)):
                found = bodies.greatest_worth(n, rule, weights)
                self.assertTrue(same(found, greatest(rule, weights)), (rule, weights))
                self.assertEqual(found, max(dot(weights, point) for point in corners(n, rule)))


class PointsTest(unittest.TestCase):
    """[11.4]"""

    def test_judge_point_gives_a_right_certificate(self):
        told = {"corner": 0, "outside": 0, "within": 0}
        for n, rule in small_rules():
            for point in points(n, rule, len(rule)):
                right = certificates(n, rule, point)
                self.assertEqual(len({thing[0] for thing in right}), 1)
                found = bodies.judge_point(n, rule, point)
                self.assertTrue(is_among(found, right), (rule, point, found))
                self.assertIs(bodies.point_holds(n, rule, point, found), True)
                told[found[0]] += 1
        self.assertGreater(min(told.values()), 50)

    def test_all_small_points(self):
        for n, rule in [(n, rule) for n in (2, 3) for rule in plain.rules(n)]:
            for point in itertools.product(range(-3, 4), repeat=n):
                found = bodies.judge_point(n, rule, point)
                self.assertTrue(is_among(found, certificates(n, rule, point)), (rule, point, found))

    def test_just_the_right_ones_of_all_forms(self):
        for n, rule in [(n, rule) for n in (1, 2, 3) for rule in plain.rules(n)] + [(4, trees(4)), (4, neighbours(4))]:
            things = [("within",), ("outside", ()), *(("corner", row) for row in plain.rows(n))]
            numbers = range(0, n + 2)
            things += [("outside", lot) for many in numbers for lot in itertools.combinations(numbers, many)]
            for point in points(n, rule, n):
                right = certificates(n, rule, point)
                for thing in things:
                    told = bodies.point_holds(n, rule, point, thing)
                    self.assertIs(told, is_among(thing, right), (rule, point, thing))

    def test_any_values(self):
        some = [(2, neighbours(2)), (3, trees(3)), (3, tuple(plain.arcs(3))), (5, trees(5)), (5, tuple(plain.arcs(5)))]
        for n, rule in some + [(5, drawn_full(5, 1, 9)[0])]:
            for point in [*points(n, rule, 1)[::4], (1, -1) + (0,) * (n - 2)]:
                right = certificates(n, rule, point)
                things = [*ANY, *right, *spoiled(right[0]), *spoiled(right[-1]), ("within",), ("outside", (n, 1))]
                things += [("corner", row) for row in (UP[:n], DOWN[-n:], list(UP[:n]), (True,) + UP[1:n])]
                things += [("outside", lot) for lot in ((1,), (True,), [1], (1, 1), (0,), (n + 1,), (None,), UP[:n])]
                args = (n, rule, point)
                check_told(self, bodies.point_holds, args, lambda thing: is_among(thing, right), things)

    def test_all_arcs_of_five(self):
        rule = tuple(plain.arcs(5))
        self.assertEqual(len(bodies.corners(5, rule)), math.factorial(5))
        for row in drawn_rows(5, 10, 1):
            point = bodies.corner(5, rule, row)
            self.assertEqual(bodies.judge_point(5, rule, point), ("corner", row))
            self.assertIs(bodies.point_holds(5, rule, point, ("corner", row)), True)
            self.assertIs(bodies.point_holds(5, rule, point, ("corner", row[::-1])), False)


class WrongInputsTest(unittest.TestCase):
    def wrong_weights(self, n):
        found = [*ANY, [0] * n, (0,) * (n + 1), (0,) * (n - 1), (True,) * n, ("0",) * n, *spoiled((3,) * n)]
        found += [(0,) * (n - 1) + (other,) for other in (None, False, (0,), [0], YARDS[0], "1")]
        return [
            thing for thing in found
            if type(thing) is not tuple or len(thing) != n or any(type(part) is not int for part in thing)
        ]

    def test_arcs_and_rows(self):
        for n in (2, 3, 5):
            wrong = {"arc": (BadArc, wrong_arcs(n)), "row": (BadRow, wrong_rows(n))}
            check_wrong(self, bodies.matchings, n, {"arc": (1, n, ())}, wrong)
            check_wrong(self, bodies.best_matching, n, {"arc": (1, n, ()), "row": tuple(range(n, 0, -1))}, wrong)

    def test_rules_and_rows(self):
        for n, values in ((1, wrong_rules(1)), (3, wrong_rules(3)), (5, few_wrong_rules(5))):
            wrong = {"rule": (BadRule, values), "row": (BadRow, wrong_rows(n))}
            good = {"rule": tuple(plain.arcs(n)), "row": tuple(range(1, n + 1))}
            check_wrong(self, bodies.corner, n, good, wrong)
            check_wrong(self, bodies.corners, n, {"rule": ()}, wrong)

    def test_weights_and_points(self):
        for n, values in ((1, wrong_rules(1)), (3, wrong_rules(3)), (5, few_wrong_rules(5))):
            wrong = {"rule": (BadRule, values), "weights": (BadWeights, self.wrong_weights(n))}
            wrong["point"] = wrong["weights"]
            good = {"rule": tuple(plain.arcs(n)), "weights": (1,) * n}
            check_wrong(self, bodies.greatest_worth, n, good, wrong)
            good = {"rule": neighbours(n), "point": (0,) * n}
            check_wrong(self, bodies.judge_point, n, good, wrong)
            for thing in (("within",), ("corner", UP[:n]), None, [], Own()):
                check_wrong(self, bodies.point_holds, n, {**good, "thing": thing}, wrong)


if __name__ == "__main__":
    unittest.main()

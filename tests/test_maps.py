import functools
import itertools
import random
import unittest

from keptarcs import maps
from keptarcs.errors import BadMap, BadOrder, BadRule
from tests import plain
from tests.some_rules import few_wrong_rules, neighbours, trees, wrong_rules
from tests.values import ANY, YARDS, Own, check_told, check_wrong, is_among, same, spoiled

STEP = (2, ((0, 1),))
SQUARE = (4, ((0, 1), (0, 2), (0, 3), (1, 3), (2, 3)))
# Five things, three of them in the middle; five of which two are one above the other beside a third.
THREE = (5, ((0, 1), (0, 2), (0, 3), (0, 4), (1, 4), (2, 4), (3, 4)))
BENT = (5, ((0, 1), (0, 2), (0, 3), (0, 4), (1, 2), (1, 4), (2, 4), (3, 4)))


def chain(m):
    return (m, tuple(itertools.combinations(range(m), 2)))


def renamed(order, seed):
    """A small order with other names for its things."""
    m, pairs = order
    names = random.Random(seed).sample(range(m), m)
    return (m, tuple(sorted((names[a], names[b]) for a, b in pairs)))


def cube():
    """All choices of three things, some of which are below others."""
    some = list(itertools.product((0, 1), repeat=3))
    pairs = [
        (i, k) for i, one in enumerate(some) for k, other in enumerate(some)
        if i != k and all(a <= b for a, b in zip(one, other))
    ]
    return (8, tuple(pairs))


def bounds(order, a, b):
    """The lists of the least things above two things, and of the greatest below, by a look at all things."""
    m, pairs = order
    up = {(c, d) for c in range(m) for d in range(m) if c == d or (c, d) in pairs}
    above = [c for c in range(m) if (a, c) in up and (b, c) in up]
    below = [c for c in range(m) if (c, a) in up and (c, b) in up]
    least = [c for c in above if all((c, d) in up for d in above)]
    return least, [c for c in below if all((d, c) in up for d in below)]


def is_order(thing):
    if type(thing) is not tuple or len(thing) != 2 or type(thing[0]) is not int or thing[0] not in range(1, 9):
        return False
    m, pairs = thing
    if type(pairs) is not tuple or any(type(pair) is not tuple or len(pair) != 2 for pair in pairs):
        return False
    if any(type(a) is not int or a not in range(m) for pair in pairs for a in pair):
        return False
    if list(pairs) != sorted(set(pairs)) or any(a == b or (b, a) in pairs for a, b in pairs):
        return False
    if any(b == c and (a, d) not in pairs for a, b in pairs for c, d in pairs):
        return False
    return all(len(some) == 1 for a in range(m) for b in range(m) for some in bounds(thing, a, b))


@functools.cache
def orders(m):
    """All small orders of m things."""
    every = list(itertools.permutations(range(m), 2))
    some = (tuple(sorted(pairs)) for many in range(len(every) + 1) for pairs in itertools.combinations(every, many))
    return [(m, pairs) for pairs in some if is_order((m, pairs))]


def some_orders():
    found = [(1, ()), STEP, (2, ((1, 0),)), chain(3), renamed(chain(3), 2), SQUARE, THREE, BENT, chain(8), cube()]
    return found + [renamed(order, 1) for order in (SQUARE, THREE, BENT, chain(8), cube())]


def wrong_orders():
    found = [*ANY, (2, ()), (3, ((0, 1), (0, 2))), (3, ((0, 2), (1, 2))), (3, ((0, 1), (1, 2))), (0, ()), (-1, ())]
    found += [(4, ((0, 2), (0, 3), (1, 2), (1, 3))), (True, ()), ("2", ((0, 1),)), (9, chain(9)[1]), [2, ((0, 1),)]]
    # Two things of the middle without a least one above them.
    found += [(6, ((0, 1), (0, 2), (0, 3), (0, 4), (0, 5), (1, 3), (1, 4), (1, 5), (2, 3), (2, 4), (2, 5), (3, 5), (4, 5)))]
    found += [(2, ((0, 1), (1, 0))), (1, ((0, 0),)), (2, ((0, 2),)), (2, ((0, 1), (0, 1))), (2, [(0, 1)]), (2, ([0, 1],))]
    found += [(2, ((False, 1),)), (2, ((0, 1, 1),)), (3, ((0, 1), (1, 2), (2, 0))), (2, None), (2, ((0, None),)), (2,)]
    found += [(2, ((0, 1),), ()), (2, YARDS[0]), (YARDS[1], ()), (2, (YARDS[1],)), (2, ((0, YARDS[2]),))]
    # Things beyond that stand below or above all others.
    for other in (-1, 2, 7):
        found += [(2, tuple(sorted([(other, 0), (other, 1), (0, 1)]))), (2, tuple(sorted([(0, other), (0, 1), (1, other)])))]
        found += [(1, ((other, 0),)), (1, ((0, other),))]
    for m, pairs in (SQUARE, BENT, THREE, chain(8), cube()):
        found += [(m, pairs[:i] + pairs[i + 1:]) for i in range(len(pairs))] + [(m, pairs[::-1]), (m - 1, pairs)]
        found += [(m + 1, pairs), (m, tuple((b, a) for a, b in pairs)), (m, list(pairs)), (m, pairs + pairs[-1:])]
    found += [other for order in (STEP, chain(3)) for other in spoiled(order)]
    return [thing for thing in found if not is_order(thing)]


def is_map(n, order, thing):
    if type(thing) is not tuple or len(thing) != len(plain.rows(n)):
        return False
    return all(type(part) is int and 0 <= part < order[0] for part in thing)


def certificates(n, order, places):
    """All right certificates for a map, by a look at all pairs of rows."""
    rows, found = plain.rows(n), []
    things = dict(zip(rows, places))
    for one, other in itertools.product(rows, repeat=2):
        low, high = plain.joined((one, other))
        least, most = bounds(order, things[one], things[other])
        found += [("parts", "above", one, other)] if [things[high]] != least else []
        found += [("parts", "below", one, other)] if [things[low]] != most else []
    return found or [("keeps", rule) for rule in plain.rules(n) if is_told(n, things, rule)]


def is_told(n, things, rule):
    """Whether two rows go to one thing exactly if they are one by a rule."""
    found = {}
    for row, thing in things.items():
        found.setdefault(thing, []).append(row)
    return {tuple(rows) for rows in found.values()} == set(plain.parts(n, rule).values())


def firsts(n, rule):
    return sorted({plain.first(n, rule, row) for row in plain.rows(n)})


def few_classes(n):
    """The rules with at most 8 classes."""
    return [rule for rule in plain.rules(n) if len(firsts(n, rule)) <= 8]


def order_of(n, rule):
    rows = list(enumerate(firsts(n, rule)))
    return (len(rows), tuple((i, k) for i, low in rows for k, high in rows if i != k and plain.is_below(low, high)))


def map_of(n, rule):
    rows = firsts(n, rule)
    return tuple(rows.index(plain.first(n, rule, row)) for row in plain.rows(n))


def small_maps():
    """All maps for one and two numbers into small orders, and many for three."""
    found = [
        (n, order, places) for n in (1, 2) for m in (1, 2, 3) for order in orders(m)
        for places in itertools.product(range(m), repeat=n)
    ]
    found += [(3, order, places) for order in orders(2) for places in itertools.product(range(2), repeat=6)]
    found += [(3, chain(3), places) for places in list(itertools.product(range(3), repeat=6))[::5]]
    return found + [(3, order_of(3, rule), map_of(3, rule)) for rule in plain.rules(3)]


def wide_maps():
    """Maps for three and four numbers: those of classes, such into greater orders, changed ones and drawn ones."""
    found, draw = [], random.Random(5)
    for rule in few_classes(4):
        order, places = order_of(4, rule), map_of(4, rule)
        i = draw.randrange(24)
        found += [(4, order, places), (4, order, places[:i] + (draw.randrange(order[0]),) + places[i + 1:])]
        found.append((4, chain(8), places))
    for order in (SQUARE, THREE, BENT, cube()):
        found += [(n, order, (k,) * len(plain.rows(n))) for n in (3, 4) for k in (0, order[0] - 1)]
        found.append((4, order, tuple(draw.randrange(order[0]) for _ in range(24))))
    return found


class OrdersTest(unittest.TestCase):
    """[12.1]"""

    def test_all_pairs_of_few_things(self):
        for m, known in ((1, 1), (2, 2), (3, 6), (4, 36)):
            every = list(itertools.permutations(range(m), 2))
            some = [pairs for many in range(len(every) + 1) for pairs in itertools.combinations(every, many)]
            found = [pairs for pairs in some if maps.is_order((m, pairs))]
            self.assertEqual(len(found), known)
            self.assertEqual(sorted((m, pairs) for pairs in found), sorted(orders(m)))

    def test_eight_things(self):
        for order in some_orders():
            self.assertTrue(is_order(order))
            self.assertIs(maps.is_order(order), True)

    def test_no_orders(self):
        for thing in wrong_orders():
            self.assertIs(maps.is_order(thing), False, thing)
        for order in (STEP, SQUARE):
            for thing in spoiled(order):
                self.assertIs(maps.is_order(thing), is_order(thing), thing)


class MapsTest(unittest.TestCase):
    """[12.2]"""

    def test_is_map(self):
        for n, order, places in small_maps()[::3] + wide_maps():
            self.assertIs(maps.is_map(n, order, places), True)
            self.assertIs(maps.is_map(n, order, list(places)), False)
            self.assertIs(maps.is_map(n, order, places + (0,)), False)
            self.assertIs(maps.is_map(n, order, places[1:]), False)
            self.assertIs(maps.is_map(n, order, places[:-1] + (order[0],)), False)
            self.assertIs(maps.is_map(n, order, places[:-1] + (-1,)), False)
        for n, order, places in small_maps()[::40]:
            things = [*ANY, *spoiled(places)]
            check_told(self, maps.is_map, (n, order), lambda thing: is_map(n, order, thing), things)

    def test_judge_map_gives_a_right_certificate(self):
        told = {"keeps": 0, "parts": 0}
        for n, order, places in small_maps() + wide_maps():
            right = certificates(n, order, places)
            found = maps.judge_map(n, order, places)
            self.assertTrue(is_among(found, right), (order, places, found))
            self.assertIs(maps.map_holds(n, order, places, found), True)
            told[found[0]] += 1
        self.assertGreater(min(told.values()), 50)

    def test_the_rule_is_the_only_one(self):
        for n, order, places in small_maps() + wide_maps():
            right = certificates(n, order, places)
            self.assertTrue(right[0][0] == "parts" or len(right) == 1)

    def test_just_the_right_ones_of_all_forms(self):
        for n, order, places in small_maps()[::6]:
            right = certificates(n, order, places)
            things = [("keeps", rule) for rule in plain.rules(n)]
            things += [("parts", *told) for told in itertools.product(("above", "below"), *[plain.rows(n)] * 2)]
            for thing in things:
                self.assertIs(maps.map_holds(n, order, places, thing), is_among(thing, right), (places, thing))
        for n, order, places in wide_maps():
            right = certificates(n, order, places)
            things = [("keeps", rule) for rule in plain.rules(n)[::3]] + right[:20]
            rows = plain.rows(n)[::5]
            things += [("parts", *told) for told in itertools.product(("above", "below", "beside"), rows, rows)]
            for thing in things:
                self.assertIs(maps.map_holds(n, order, places, thing), is_among(thing, right), (places, thing))

    def test_any_values(self):
        for n, order, places in [*small_maps()[::35], *wide_maps()[::9]]:
            right = certificates(n, order, places)
            things = [*ANY, *right[:9], *spoiled(right[0]), *spoiled(right[-1]), ("keeps", ()), ("parts", "above")]
            check_told(self, maps.map_holds, (n, order, places), lambda thing: is_among(thing, right), things)

    def test_one_number(self):
        self.assertEqual(maps.judge_map(1, (1, ()), (0,)), ("keeps", ()))
        for thing in range(8):
            self.assertEqual(maps.judge_map(1, cube(), (thing,)), ("keeps", ()))
        self.assertEqual(maps.class_order(1, ()), (1, ()))
        self.assertEqual(maps.class_map(1, ()), (0,))


class ClassOrdersTest(unittest.TestCase):
    """[12.3]"""

    def test_by_all_rows(self):
        for n, rule in [(n, rule) for n in range(1, 5) for rule in few_classes(n)]:
            order, places = maps.class_order(n, rule), maps.class_map(n, rule)
            self.assertTrue(same(order, order_of(n, rule)))
            self.assertTrue(same(places, map_of(n, rule)))
            self.assertIs(maps.is_order(order), True)
            self.assertTrue(is_order(order))
            self.assertEqual(maps.judge_map(n, order, places), ("keeps", rule))
            self.assertEqual(certificates(n, order, places), [("keeps", rule)])

    def test_class_map_of_more_classes(self):
        for rule in (tuple(plain.arcs(4)), trees(4)):
            self.assertTrue(same(maps.class_map(4, rule), map_of(4, rule)))


class WrongInputsTest(unittest.TestCase):
    def wrong_maps(self, n, order):
        many = len(plain.rows(n))
        found = [*ANY, [0] * many, (0,) * (many + 1), (0,) * (many - 1), (order[0],) * many, (-1,) * many, ("0",) * many]
        found += [(False,) * many, (0,) * (many - 1) + (YARDS[0],), (0,) * (many - 1) + (None,), ((0,),) * many]
        found += spoiled((0,) * many)
        return [thing for thing in found if not is_map(n, order, thing)]

    def test_orders_and_maps(self):
        for n, order in ((1, STEP), (2, SQUARE), (3, chain(8)), (4, (1, ()))):
            wrong = {"order": (BadOrder, wrong_orders()), "places": (BadMap, self.wrong_maps(n, order))}
            good = {"order": order, "places": (0,) * len(plain.rows(n))}
            check_wrong(self, maps.judge_map, n, good, wrong)
            for thing in (("keeps", ()), ("parts", "above", (1, 2), (2, 1)), None, [], Own()):
                check_wrong(self, maps.is_map, n, {"order": order, "thing": thing}, wrong)
                check_wrong(self, maps.map_holds, n, {**good, "thing": thing}, wrong)

    def test_rules(self):
        for n, values in ((1, wrong_rules(1)), (3, wrong_rules(3)), (4, few_wrong_rules(4))):
            for function in (maps.class_order, maps.class_map):
                check_wrong(self, function, n, {"rule": neighbours(n)}, {"rule": (BadRule, values)})


if __name__ == "__main__":
    unittest.main()

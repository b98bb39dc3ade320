import collections
import functools
import itertools
import math
import unittest

from keptarcs import trees
from keptarcs.classes import are_one
from keptarcs.errors import BadRow, BadTree
from keptarcs.marks import twin_rule
from tests import plain
from tests.some_rules import by_marks, drawn_rows
from tests.test_rows import wrong_rows
from tests.values import ANY, Own, check_holds, check_told, check_wrong, is_among, same, spoiled

EIGHT = [tuple(range(1, 9)), tuple(range(8, 0, -1)), (4, 2, 6, 1, 3, 5, 7, 8), *drawn_rows(8, 25, 8)]


def put_into(tree, number):
    """A tree as a list, changed by putting in a number after the words of [9.2]."""
    if not tree:
        tree[:] = [number, [], []]
    else:
        put_into(tree[1] if number < tree[0] else tree[2], number)


def as_tuples(tree):
    return tuple(as_tuples(part) if isinstance(part, list) else part for part in tree)


@functools.cache
def tree_in(row):
    """The tree of a row, by putting in number after number."""
    tree = []
    for number in row:
        put_into(tree, number)
    return as_tuples(tree)


def late_tree_in(row):
    return tree_in(row[::-1])


@functools.cache
def all_trees(n):
    return sorted({tree_in(row) for row in plain.rows(n)})


def numbers_in(tree):
    return {tree[0]} | numbers_in(tree[1]) | numbers_in(tree[2]) if tree else set()


def beneath(tree, p):
    """All numbers that lie beneath a number of a tree."""
    if tree[0] == p:
        return numbers_in(tree[1]) | numbers_in(tree[2])
    return beneath(tree[1] if p < tree[0] else tree[2], p)


def turned(tree):
    """All trees that come of turning a tree, or one within it, at one tie."""
    if not tree:
        return []
    number, left, right = tree
    found = [(number, other, right) for other in turned(left)] + [(number, left, other) for other in turned(right)]
    if left:
        found.append((left[0], left[1], (number, left[2], right)))
    if right:
        found.append((right[0], (number, left, right[1]), right[2]))
    return found


def is_search_tree(thing):
    """Whether any value is a tree, whatever its numbers."""
    if type(thing) is not tuple or len(thing) not in (0, 3):
        return False
    if not thing:
        return True
    if type(thing[0]) is not int or not is_search_tree(thing[1]) or not is_search_tree(thing[2]):
        return False
    return max(numbers_in(thing[1]), default=0) < thing[0] < min(numbers_in(thing[2]), default=math.inf)


def is_tree(n, thing):
    return is_search_tree(thing) and numbers_in(thing) == set(range(1, n + 1))


def changed(tree):
    """A tree with a number twice, left out, on the wrong side, or with other kinds of values in it."""
    number, left, right = tree
    found = [(number, right, left), (number, left, left), (number, right, right), (number, left), (number,)]
    found += [(number, (number, left, ()), right), (number, left, (number, (), right)), left, right]
    found += [(other, left, right) for other in (True, number + 1, number - 1, str(number), (number,), None)]
    found += [(number, list(left), right), (number, left, list(right)), [number, left, right], (number, None, right)]
    found += [(number, other, right) for other in changed(left)] if left else []
    found += [(number, left, other) for other in changed(right)] if right else []
    return found


def wrong_trees(n):
    some = all_trees(n) if n < 4 else [tree_in(row) for row in drawn_rows(n, 3, n)]
    found = [*ANY, *(other for tree in some for other in [*changed(tree), *spoiled(tree)])]
    found += [tree_in(tuple(range(1, n + 2))), tree_in(tuple(range(0, n))), tree_in(tuple(range(n - 1, 0, -1)))]
    found += [(1, (), (1, (), ())), (2, (), (1, (), ())), (1, [], ()), (True, (), ()), (1, (), ()) + ((),)]
    return [thing for thing in found if not is_tree(n, thing)]


class TreesTest(unittest.TestCase):
    """[9.2]"""

    def test_is_tree(self):
        for n in range(1, 5):
            good = all_trees(n)
            things = [*ANY, *all_trees(5), *(tree for many in range(1, 5) for tree in all_trees(many))]
            things += [other for tree in good for other in [*changed(tree), *spoiled(tree)]]
            for thing in things:
                self.assertIs(trees.is_tree(n, thing), is_among(thing, good), thing)

    def test_is_tree_of_more_numbers(self):
        for n in range(5, 9):
            for row in drawn_rows(n, 10, 3):
                self.assertIs(trees.is_tree(n, tree_in(row)), True)
                self.assertIs(trees.is_tree(n - 1, tree_in(row)), False)
                self.assertIs(trees.is_tree(n + 1, tree_in(row)), False)
            for thing in wrong_trees(n):
                self.assertIs(trees.is_tree(n, thing), False, thing)

    def test_the_tree_within_a_tree(self):
        self.assertIs(trees.is_tree(1, ()), False)
        self.assertIs(trees.is_tree(1, (1, (), ())), True)
        self.assertIs(trees.is_tree(1, (1, (), [])), False)
        self.assertIs(trees.is_tree(1, (1, (), ((),))), False)
        self.assertIs(trees.is_tree(1, (1, ((), (), ()), ())), False)

    def test_number_after_number(self):
        for row in [row for n in range(1, 6) for row in plain.rows(n)] + EIGHT:
            self.assertTrue(same(trees.tree_of(len(row), row), tree_in(row)))
            self.assertTrue(same(trees.late_tree_of(len(row), row), late_tree_in(row)))

    def test_how_many_there_are(self):
        for n, catalan in ((1, 1), (2, 2), (3, 5), (4, 14), (5, 42)):
            self.assertEqual(len({trees.tree_of(n, row) for row in plain.rows(n)}), catalan)

    def test_rows_with_one_tree_are_one_by_marks(self):
        for n in range(1, 7):
            for mark, tree_of in (("ahead", trees.tree_of), ("behind", trees.late_tree_of)):
                parts = plain.parts(n, by_marks(n, (mark,) * n))
                found = collections.defaultdict(list)
                for row in plain.rows(n):
                    found[tree_of(n, row)].append(row)
                self.assertEqual({tuple(rows) for rows in found.values()}, set(parts.values()))

    def test_the_other_marks_do_not(self):
        for n in (3, 4):
            parts = plain.parts(n, by_marks(n, ("behind",) * n))
            self.assertTrue(any(trees.tree_of(n, row) != trees.tree_of(n, parts[row][0]) for row in plain.rows(n)))

    def test_eight_numbers(self):
        for mark, tree_of in (("ahead", trees.tree_of), ("behind", trees.late_tree_of)):
            rule = by_marks(8, (mark,) * 8)
            for row in EIGHT[:12]:
                some = plain.one_class(rule, row)[:200]
                self.assertEqual(len({tree_of(8, other) for other in some}), 1)
            for one, other in itertools.combinations(EIGHT[:8], 2):
                self.assertIs(are_one(8, rule, one, other), tree_of(8, one) == tree_of(8, other))


class RowsOfTreesTest(unittest.TestCase):
    """[9.2]"""

    def rows_by_tree(self, n):
        found = collections.defaultdict(list)
        for row in plain.rows(n):
            found[tree_in(row)].append(row)
        return found

    def test_by_all_rows(self):
        for n in range(1, 7):
            for tree, rows in self.rows_by_tree(n).items():
                self.assertTrue(same(trees.rows_of_tree(n, tree), len(rows)))
                self.assertTrue(same(trees.first_row_of(n, tree), plain.bottom(tuple(rows))))

    def test_eight_numbers(self):
        found = self.rows_by_tree(8)
        self.assertEqual(len(found), 1430)
        for tree, rows in list(found.items())[::40]:
            self.assertTrue(same(trees.rows_of_tree(8, tree), len(rows)))
            self.assertTrue(same(trees.first_row_of(8, tree), plain.bottom(tuple(rows))))
        self.assertEqual(sum(trees.rows_of_tree(8, tree) for tree in found), math.factorial(8))

    def test_one_number(self):
        self.assertEqual(trees.rows_of_tree(1, (1, (), ())), 1)
        self.assertEqual(trees.first_row_of(1, (1, (), ())), (1,))
        self.assertEqual(trees.next_trees(1, (1, (), ())), ())


class NextTreesTest(unittest.TestCase):
    """[9.3]"""

    def test_turned_at_each_tie(self):
        some = [(n, tree) for n in range(1, 7) for tree in all_trees(n)] + [(8, tree_in(row)) for row in EIGHT]
        for n, tree in some:
            found = trees.next_trees(n, tree)
            self.assertTrue(same(found, tuple(sorted(turned(tree)))))
            self.assertEqual(len(found), n - 1)
            for other in found:
                self.assertIn(tree, trees.next_trees(n, other))

    def test_trees_of_neighbouring_classes(self):
        for n in range(1, 6):
            rule = by_marks(n, ("ahead",) * n)
            found = {tree: set() for tree in all_trees(n)}
            for row in plain.rows(n):
                for i in range(n - 1):
                    if plain.arc_at(row, i) in rule:
                        found[tree_in(row)].add(tree_in(plain.exchanged(row, i)))
            for tree, others in found.items():
                self.assertEqual(trees.next_trees(n, tree), tuple(sorted(others)))


def parting(n, one, other):
    """All certificates that two trees are no twins."""
    numbers = [p for p in range(1, n) if (p + 1 in beneath(one, p)) == (p + 1 in beneath(other, p))]
    return [("apart", p) for p in numbers]


@functools.cache
def twin_rows(n):
    """A dict of the rows of each pair of a tree and a late tree."""
    found = {}
    for row in plain.rows(n):
        found.setdefault((tree_in(row), late_tree_in(row)), []).append(row)
    return found


def certificates(n, one, other):
    """All right certificates for two trees, by all rows."""
    return [("twins", row) for row in twin_rows(n).get((one, other), [])] or parting(n, one, other)


class TwinsTest(unittest.TestCase):
    """[9.4]"""

    def test_just_one_kind(self):
        for n in range(1, 6):
            for one, other in itertools.product(all_trees(n), repeat=2):
                self.assertIs((one, other) in twin_rows(n), parting(n, one, other) == [])

    def test_judge_twins_gives_a_right_certificate(self):
        for n in range(1, 6):
            for one, other in itertools.product(all_trees(n), repeat=2):
                found = trees.judge_twins(n, one, other)
                self.assertTrue(is_among(found, certificates(n, one, other)), (one, other, found))
                self.assertIs(trees.twins_hold(n, one, other, found), True)

    def test_eight_numbers(self):
        for row in EIGHT:
            found = trees.judge_twins(8, tree_in(row), late_tree_in(row))
            self.assertEqual(found[0], "twins")
            self.assertTrue(plain.is_row(8, found[1]))
            self.assertEqual((tree_in(found[1]), late_tree_in(found[1])), (tree_in(row), late_tree_in(row)))
            self.assertIs(trees.twins_hold(8, tree_in(row), late_tree_in(row), ("twins", row)), True)
        for one, other in itertools.product(EIGHT[:8], repeat=2):
            found = trees.judge_twins(8, tree_in(one), tree_in(other))
            self.assertIs(trees.twins_hold(8, tree_in(one), tree_in(other), found), True)
            right = parting(8, tree_in(one), tree_in(other))
            if right:
                self.assertTrue(is_among(found, right))
            else:
                self.assertEqual((tree_in(found[1]), late_tree_in(found[1])), (tree_in(one), tree_in(other)))

    def test_just_the_right_ones_of_all_forms(self):
        for n in range(1, 5):
            things = [("twins", row) for row in plain.rows(n)] + [("apart", p) for p in range(-1, n + 2)]
            for one, other in itertools.product(all_trees(n), repeat=2):
                right = certificates(n, one, other)
                for thing in things:
                    self.assertIs(trees.twins_hold(n, one, other, thing), thing in right, (one, other, thing))

    def test_any_values(self):
        for n in range(1, 4):
            for one, other in itertools.product(all_trees(n), repeat=2):
                check_holds(self, trees.twins_hold, (n, one, other), certificates(n, one, other), [("apart", True)])
        for row, last in ((EIGHT[3], EIGHT[3]), (EIGHT[4], EIGHT[5]), (EIGHT[0], EIGHT[1])):
            args = (8, tree_in(row), late_tree_in(last))
            right = parting(*args)
            things = [*ANY, *(("apart", p) for p in (0, 1, 4, 7, 8, True, 1999)), ("twins", row), *spoiled(("twins", row))]

            def is_right(thing):
                if type(thing) is tuple and len(thing) == 2 and same(thing[0], "twins") and plain.is_row(8, thing[1]):
                    return (tree_in(thing[1]), late_tree_in(thing[1])) == args[1:]
                return is_among(thing, right)
            check_told(self, trees.twins_hold, args, is_right, things)

    def test_twin_rule(self):
        for n in range(1, 7):
            parts = plain.parts(n, twin_rule(n))
            self.assertEqual({tuple(rows) for rows in twin_rows(n).values()}, set(parts.values()))


class WrongInputsTest(unittest.TestCase):
    def test_rows(self):
        for n in (1, 3, 8):
            wrong = {"row": (BadRow, wrong_rows(n))}
            for function in (trees.tree_of, trees.late_tree_of):
                check_wrong(self, function, n, {"row": tuple(range(1, n + 1))}, wrong)

    def test_trees(self):
        for n in (1, 2, 3, 4, 8):
            wrong = {"tree": (BadTree, wrong_trees(n))}
            for function in (trees.next_trees, trees.rows_of_tree, trees.first_row_of):
                check_wrong(self, function, n, {"tree": tree_in(tuple(range(n, 0, -1)))}, wrong)

    def test_two_trees(self):
        for n in (1, 2, 3, 8):
            values = wrong_trees(n)
            wrong = {"one": (BadTree, values), "other": (BadTree, values[::-1])}
            good = {"one": tree_in(tuple(range(1, n + 1))), "other": tree_in(tuple(range(n, 0, -1)))}
            check_wrong(self, trees.judge_twins, n, good, wrong)
            for thing in (("twins", tuple(range(1, n + 1))), ("apart", 1), None, [], Own()):
                check_wrong(self, trees.twins_hold, n, {**good, "thing": thing}, wrong)


if __name__ == "__main__":
    unittest.main()

"""Search trees of rows: trees next to one another, the rows that a tree has, and twins."""

from math import comb

from keptarcs.errors import BadTree
from keptarcs.kinds import is_certificate, is_number_from
from keptarcs.rows import check_row, is_row


def is_tree_from(low, high, thing):
    """Whether any value is a tree that has each of the integers from low to high once."""
    if not isinstance(thing, tuple):
        return False
    if low > high:
        return len(thing) == 0
    if len(thing) != 3 or not is_number_from(thing[0], low, high):
        return False
    number, left, right = thing
    return is_tree_from(low, number - 1, left) and is_tree_from(number + 1, high, right)


def is_tree(n, thing):
    """Whether any value is a tree that has each of the numbers 1 to n once."""
    return is_tree_from(1, n, thing)


def check_tree(n, tree):
    """Raise BadTree with a value that is no tree of n."""
    if not is_tree(n, tree):
        raise BadTree(tree)


def with_number(tree, p):
    """The tree with a number put in."""
    if tree == ():
        return (p, (), ())
    number, left, right = tree
    if p < number:
        return (number, with_number(left, p), right)
    return (number, left, with_number(right, p))


def tree_of_numbers(numbers):
    """The tree that comes of () by putting in numbers, one after the other."""
    tree = ()
    for p in numbers:
        tree = with_number(tree, p)
    return tree


def tree_of(n, row):
    """The tree of a row."""
    check_row(n, row)
    return tree_of_numbers(row)


def late_tree_of(n, row):
    """The tree of the row read from its end."""
    check_row(n, row)
    return tree_of_numbers(row[::-1])


def turned_at_top(tree):
    """The list of the trees that come of a tree by turning it at a tie of its top number."""
    number, left, right = tree
    found = []
    if left:
        x, outer, inner = left
        found.append((x, outer, (number, inner, right)))
    if right:
        y, inner, outer = right
        found.append((y, (number, left, inner), outer))
    return found


def turned_trees(tree):
    """The list of the trees that come of a tree by turning it, or one within it, at one tie."""
    if tree == ():
        return []
    number, left, right = tree
    found = turned_at_top(tree)
    found.extend([(number, other, right) for other in turned_trees(left)])
    found.extend([(number, left, other) for other in turned_trees(right)])
    return found


def next_trees(n, tree):
    """The ascending tuple of the trees next to a tree."""
    check_tree(n, tree)
    return tuple(sorted(turned_trees(tree)))


def counted(tree):
    """How many numbers a tree has, and how many rows of them have this tree."""
    if tree == ():
        return 0, 1
    many_left, rows_left = counted(tree[1])
    many_right, rows_right = counted(tree[2])
    # The number at the top stands first; behind it a row of each part, mixed in any way.
    many = many_left + many_right
    return many + 1, comb(many, many_left) * rows_left * rows_right


def rows_of_tree(n, tree):
    """How many rows have this tree."""
    check_tree(n, tree)
    return counted(tree)[1]


def top_first(tree):
    """The numbers of a tree, each ahead of those beneath it, and lesser ones beneath it ahead of greater ones."""
    if tree == ():
        return ()
    number, left, right = tree
    return (number,) + top_first(left) + top_first(right)


def first_row_of(n, tree):
    """The row with this tree that lies below all others that have it."""
    check_tree(n, tree)
    # Only such pairs are turned in it as are turned in all rows with this tree.
    return top_first(tree)


def ties(tree):
    """The list of all pairs of a number of a tree and one right beneath it."""
    if tree == ():
        return []
    number, left, right = tree
    found = [(number, part[0]) for part in (left, right) if part]
    return found + ties(left) + ties(right)


def row_by_ties(n, pairs):
    """A row in which the first number of each pair stands ahead of the second one, if there is one."""
    row = ()
    while len(row) < n:
        late = [behind for ahead, behind in pairs if ahead not in row]
        row = row + tuple([p for p in range(1, n + 1) if p not in row and p not in late])
    return row


def has_next_beneath(tree, p):
    """Whether p + 1 lies beneath p in a tree."""
    number, left, right = tree
    while number != p:
        number, left, right = left if p < number else right
    # The least number above p of the numbers beneath it is p + 1, and if there is none, p lies beneath p + 1.
    return right != ()


def parting_numbers_of(n, one, other):
    """The list of the numbers that tell that two trees are no twins."""
    return [p for p in range(1, n) if has_next_beneath(one, p) == has_next_beneath(other, p)]


def judge_twins(n, one, other):
    """A certificate of whether two trees are twins."""
    check_tree(n, one)
    check_tree(n, other)
    numbers = parting_numbers_of(n, one, other)
    if numbers:
        return ("apart", numbers[0])
    # In the row of a late tree each number stands behind those beneath it.
    late = [(beneath, number) for number, beneath in ties(other)]
    return ("twins", row_by_ties(n, ties(one) + late))


def twins_hold(n, one, other, thing):
    """Whether any value is a certificate for two trees."""
    check_tree(n, one)
    check_tree(n, other)
    if is_certificate(thing, "twins", 2):
        row = thing[1]
        return is_row(n, row) and tree_of(n, row) == one and late_tree_of(n, row) == other
    if not is_certificate(thing, "apart", 2) or not is_number_from(thing[1], 1, n - 1):
        return False
    return thing[1] in parting_numbers_of(n, one, other)

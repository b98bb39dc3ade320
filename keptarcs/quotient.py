"""The order of classes: which are below, least above, greatest below, and which are neighbours."""

from keptarcs.arcs import arc_at
from keptarcs.classes import check_rule_and_rows, first_in_class, last_in_class
from keptarcs.kinds import is_certificate
from keptarcs.rows import exchanged, greatest_below, is_below, is_row, least_above
from keptarcs.rows import pairs_not_below, tells_pair


def first_rows(n, rule, one, other):
    """The first rows of the classes of two rows."""
    check_rule_and_rows(n, rule, (one, other))
    return first_in_class(n, rule, one), first_in_class(n, rule, other)


def is_class_below(n, rule, one, other):
    """Whether the class of the first row is below that of the second one."""
    low, high = first_rows(n, rule, one, other)
    return is_below(n, low, high)


def judge_class_below(n, rule, one, other):
    """A certificate of whether the class of the first row is below that of the second one."""
    low, high = first_rows(n, rule, one, other)
    pairs = pairs_not_below(n, low, high)
    if pairs:
        return ("pair",) + pairs[0]
    return ("below", low, high)


def rows_show(n, rule, firsts, rows):
    """Whether any two values are rows of the classes with two first rows, the one below the other."""
    if not all([is_row(n, row) for row in rows]) or not is_below(n, rows[0], rows[1]):
        return False
    return firsts == tuple([first_in_class(n, rule, row) for row in rows])


def class_below_holds(n, rule, one, other, thing):
    """Whether any value is a certificate for the classes of two rows."""
    low, high = first_rows(n, rule, one, other)
    if is_certificate(thing, "below", 3):
        return rows_show(n, rule, (low, high), thing[1:])
    return tells_pair(thing, pairs_not_below(n, low, high))


def least_class_above(n, rule, one, other):
    """The first row of the least class that both classes are below."""
    low, high = first_rows(n, rule, one, other)
    return least_above(n, low, high)


def greatest_class_below(n, rule, one, other):
    """The first row of the greatest class that is below both classes."""
    check_rule_and_rows(n, rule, (one, other))
    return first_in_class(n, rule, greatest_below(n, one, other))


def neighbour_at(n, rule, row, i):
    """The arc of an exchange, and the first row of the class that it leads to."""
    return arc_at(n, row, i), first_in_class(n, rule, exchanged(n, row, i))


def neighbours_by_falls(n, rule, first):
    """The ascending tuple of the pairs of the lower neighbours of a class, told by its first row."""
    falls = [i for i in range(n - 1) if first[i] > first[i + 1]]
    return tuple(sorted([neighbour_at(n, rule, first, i) for i in falls]))


def lower_neighbours(n, rule, row):
    """The ascending tuple of pairs (arc, first row) of the lower neighbours of a class."""
    check_rule_and_rows(n, rule, (row,))
    return neighbours_by_falls(n, rule, first_in_class(n, rule, row))


def upper_neighbours(n, rule, row):
    """The ascending tuple of pairs (arc, first row) of the upper neighbours of a class."""
    check_rule_and_rows(n, rule, (row,))
    last = last_in_class(n, rule, row)
    rises = [i for i in range(n - 1) if last[i] < last[i + 1]]
    return tuple(sorted([neighbour_at(n, rule, last, i) for i in rises]))


def is_next_lower(n, rule, one, other):
    """Whether the class with the first row one is a lower neighbour of that with the first row other."""
    return one in [row for _, row in neighbours_by_falls(n, rule, other)]


def are_neighbours(n, rule, one, other):
    """Whether one of the classes of two rows is a lower neighbour of the other one."""
    low, high = first_rows(n, rule, one, other)
    return is_next_lower(n, rule, low, high) or is_next_lower(n, rule, high, low)

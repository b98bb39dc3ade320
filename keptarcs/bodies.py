"""Bodies whose corners are the classes of a rule: matchings of arcs, corners, greatest worths, points."""

from keptarcs.arcs import check_arc, choices
from keptarcs.classes import check_rule_and_rows, classes
from keptarcs.errors import BadWeights
from keptarcs.kinds import are_ascending_numbers, are_numbers, is_certificate
from keptarcs.rows import check_row, is_row
from keptarcs.rules import check_rule


def matchings(n, arc):
    """The ascending tuple of all matchings of an arc."""
    check_arc(n, arc)
    a, b, ahead = arc
    closed = [()]
    opened = [(a,)]
    # What is closed ends with a number that is not ahead, what is opened with one that is.
    for p in range(a + 1, b + 1):
        if p in ahead:
            opened = opened + [some + (p,) for some in closed]
        else:
            closed = closed + [some + (p,) for some in opened]
    return tuple(sorted(closed))


def greatest_matching(arc, weights):
    """The worth of a matching of greatest worth for weights, and the matching."""
    a, b, ahead = arc
    closed = (0, ())
    opened = (weights[a - 1], (a,))
    for p in range(a + 1, b + 1):
        if p in ahead:
            opened = max(opened, (closed[0] + weights[p - 1], closed[1] + (p,)))
        else:
            closed = max(closed, (opened[0] - weights[p - 1], opened[1] + (p,)))
    return closed


def places_of(n, row):
    """The weights that give each number its position in a row."""
    return tuple([row.index(p) for p in range(1, n + 1)])


def best_matching(n, arc, row):
    """The matching of greatest worth for the places of a row."""
    check_arc(n, arc)
    check_row(n, row)
    return greatest_matching(arc, places_of(n, row))[1]


def corner_of(n, rule, row):
    """The corner of a row by a rule, for both that are known to be such."""
    weights = places_of(n, row)
    found = [0] * n
    for arc in rule:
        for i, p in enumerate(greatest_matching(arc, weights)[1]):
            # Numbers that are put in and such that are taken out follow one another by turns.
            found[p - 1] += 1 - 2 * (i % 2)
    return tuple(found)


def corner(n, rule, row):
    """The corner of a row by a rule."""
    check_rule_and_rows(n, rule, (row,))
    return corner_of(n, rule, row)


def corners(n, rule):
    """The ascending tuple of all corners."""
    # Each class has one corner, and each other class another one.
    return tuple(sorted([corner_of(n, rule, row) for row in classes(n, rule)]))


def is_point(n, thing):
    """Whether any value is a tuple of n integers."""
    return are_numbers(thing) and len(thing) == n


def check_rule_and_point(n, rule, point):
    """Raise BadRule with a value that is no rule, then BadWeights with one that is no tuple of n integers."""
    check_rule(n, rule)
    if not is_point(n, point):
        raise BadWeights(point)


def worth_of_rule(rule, weights):
    """The greatest worth of a rule for weights, for both that are known to be such."""
    return sum([greatest_matching(arc, weights)[0] for arc in rule])


def greatest_worth(n, rule, weights):
    """The greatest worth of a rule for weights."""
    check_rule_and_point(n, rule, weights)
    return worth_of_rule(rule, weights)


def is_beyond(n, rule, point, numbers):
    """Whether the items of a point for some numbers tell that it is outside."""
    total = sum([point[p - 1] for p in numbers])
    if len(numbers) == n:
        return total != 0
    return total > worth_of_rule(rule, tuple([1 if p in numbers else 0 for p in range(1, n + 1)]))


def lots_beyond(n, rule, point):
    """The list of the tuples of numbers that tell that a point is outside."""
    some = choices(list(range(1, n + 1)))
    return [numbers for numbers in some if numbers and is_beyond(n, rule, point, numbers)]


def rows_at_corner(n, rule, point):
    """The list of the first rows whose corner a point is."""
    return [row for row in classes(n, rule) if corner_of(n, rule, row) == point]


def judge_point(n, rule, point):
    """A certificate of where a point is."""
    check_rule_and_point(n, rule, point)
    lots = lots_beyond(n, rule, point)
    if lots:
        return ("outside", lots[0])
    rows = rows_at_corner(n, rule, point)
    if rows:
        return ("corner", rows[0])
    return ("within",)


def outside_holds(n, rule, point, lot):
    """Whether any value is an ascending tuple of numbers that tells that a point is outside."""
    if not are_ascending_numbers(lot) or len(lot) == 0 or not all([1 <= p <= n for p in lot]):
        return False
    return is_beyond(n, rule, point, lot)


def point_holds(n, rule, point, thing):
    """Whether any value is a certificate for a point."""
    check_rule_and_point(n, rule, point)
    if is_certificate(thing, "corner", 2):
        return is_row(n, thing[1]) and corner_of(n, rule, thing[1]) == point
    if is_certificate(thing, "outside", 2):
        return outside_holds(n, rule, point, thing[1])
    return is_certificate(thing, "within", 1) and judge_point(n, rule, point) == ("within",)

"""Arcs: those of falls and rises, arcs within arcs, single rows, and which arcs cross."""

from keptarcs.errors import BadArc
from keptarcs.kinds import are_ascending_numbers, are_numbers, is_certificate, is_number_from
from keptarcs.rows import check_place, check_row


def is_arc(n, thing):
    """Whether any value is an arc of n."""
    if not isinstance(thing, tuple) or len(thing) != 3:
        return False
    a, b, ahead = thing
    if not is_number_from(a, 1, n) or not is_number_from(b, a + 1, n):
        return False
    return are_ascending_numbers(ahead) and all([a < p < b for p in ahead])


def check_arc(n, arc):
    """Raise BadArc with a value that is no arc."""
    if not is_arc(n, arc):
        raise BadArc(arc)


def choices(numbers):
    """The list of all tuples of some of the numbers, in their order."""
    found = [()]
    for p in numbers:
        found = found + [some + (p,) for some in found]
    return found


def all_arcs(n):
    """The ascending tuple of all arcs."""
    found = []
    for a in range(1, n):
        for b in range(a + 1, n + 1):
            found.extend([(a, b, ahead) for ahead in choices(list(range(a + 1, b)))])
    return tuple(sorted(found))


def arc_at(n, row, i):
    """The arc of the fall or rise at i."""
    check_row(n, row)
    check_place(n, i)
    a = min(row[i], row[i + 1])
    b = max(row[i], row[i + 1])
    ahead = [p for p in row[:i] if a < p < b]
    return (a, b, tuple(sorted(ahead)))


def arcs_of_falls(n, row):
    """The ascending tuple of the arcs of the falls of a row."""
    check_row(n, row)
    found = [arc_at(n, row, i) for i in range(n - 1) if row[i] > row[i + 1]]
    return tuple(sorted(found))


def arcs_of_rises(n, row):
    """The ascending tuple of the arcs of the rises of a row."""
    check_row(n, row)
    found = [arc_at(n, row, i) for i in range(n - 1) if row[i] < row[i + 1]]
    return tuple(sorted(found))


def numbers_behind(arc):
    """The ascending tuple of the numbers strictly between the ends that are not ahead."""
    a, b, ahead = arc
    return tuple([p for p in range(a + 1, b) if p not in ahead])


def single_row(n, arc):
    """The row whose only fall has this arc."""
    check_arc(n, arc)
    a, b, ahead = arc
    below = tuple(range(1, a))
    above = tuple(range(b + 1, n + 1))
    return below + ahead + (b, a) + numbers_behind(arc) + above


def narrowed(arc, c, d):
    """The arc within an arc that has the ends c and d."""
    return (c, d, tuple([p for p in arc[2] if c < p < d]))


def arcs_within(n, arc):
    """The ascending tuple of the arcs within an arc."""
    check_arc(n, arc)
    a, b, _ = arc
    found = [narrowed(arc, c, d) for c in range(a, b) for d in range(c + 1, b + 1)]
    return tuple(sorted(found))


def lies_within(n, one, other):
    """Whether the first arc lies within the second one."""
    check_arc(n, one)
    check_arc(n, other)
    c, d, _ = one
    return other[0] <= c and d <= other[1] and narrowed(other, c, d) == one


def side(arc, p):
    """The side of an arc at an integer from its lower end to its upper end."""
    a, b, ahead = arc
    if p == a or p == b:
        return 0
    if p in ahead:
        return 1
    return -1


def parting_numbers(n, one, other):
    """Two lists of integers at which both arcs have sides.

    At those of the first list the first arc's side is the greater one, at those of the second
    list it is the lesser one.
    """
    check_arc(n, one)
    check_arc(n, other)
    low = max(one[0], other[0])
    high = min(one[1], other[1])
    greater = [p for p in range(low, high + 1) if side(one, p) > side(other, p)]
    less = [p for p in range(low, high + 1) if side(one, p) < side(other, p)]
    return greater, less


def judge_crossing(n, one, other):
    """A certificate of whether two arcs cross."""
    greater, less = parting_numbers(n, one, other)
    if greater and less:
        return ("cross", greater[0], less[0])
    return ("apart",)


def crossing_holds(n, one, other, thing):
    """Whether any value is a certificate for two arcs."""
    greater, less = parting_numbers(n, one, other)
    if not greater or not less:
        return is_certificate(thing, "apart", 1)
    if not is_certificate(thing, "cross", 3) or not are_numbers(thing[1:]):
        return False
    return thing[1] in greater and thing[2] in less

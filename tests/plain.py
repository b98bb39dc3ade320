"""Plain searches through all rows, arcs, lots and rules of small n, written after the document's words.

Nothing here calls the package.
"""

import functools
import itertools


def rows(n):
    return list(itertools.permutations(range(1, n + 1)))


def is_row(n, thing):
    """For n that are too great for a list of all rows."""
    if type(thing) is not tuple or any(type(p) is not int for p in thing):
        return False
    return len(thing) == n and all(p in thing for p in range(1, n + 1))


def number_pairs(n):
    return [(a, b) for a in range(1, n + 1) for b in range(a + 1, n + 1)]


@functools.cache
def turned(row):
    return frozenset((a, b) for a, b in number_pairs(len(row)) if row.index(b) < row.index(a))


def is_below(one, other):
    return turned(one) <= turned(other)


def least(some):
    """The one row of some rows that is below all of them."""
    found = [row for row in some if all(is_below(row, other) for other in some)]
    (only,) = found
    return only


def greatest(some):
    found = [row for row in some if all(is_below(other, row) for other in some)]
    (only,) = found
    return only


def exchanged(row, i):
    changed = list(row)
    changed[i], changed[i + 1] = changed[i + 1], changed[i]
    return tuple(changed)


def distances(row):
    """A dict of the least numbers of exchanges that lead from a row to all rows."""
    found = {row: 0}
    waiting = [row]
    for one in waiting:
        for i in range(len(row) - 1):
            other = exchanged(one, i)
            if other not in found:
                found[other] = found[one] + 1
                waiting.append(other)
    return found


def reached(n, pairs):
    """All (a, c) such that steps along the pairs lead from a to c."""
    found = set()
    for a in range(1, n + 1):
        waiting = [a]
        for one in waiting:
            for low, high in pairs:
                if low == one and (a, high) not in found:
                    found.add((a, high))
                    waiting.append(high)
    return found


def arcs(n):
    found = []
    for a, b in number_pairs(n):
        between = range(a + 1, b)
        for many in range(len(between) + 1):
            found += [(a, b, ahead) for ahead in itertools.combinations(between, many)]
    return sorted(found)


def is_arc(n, thing):
    """For n that are too great for a list of all arcs."""
    if type(thing) is not tuple or len(thing) != 3 or type(thing[2]) is not tuple:
        return False
    if any(type(p) is not int for p in (*thing[:2], *thing[2])):
        return False
    a, b, ahead = thing
    return 1 <= a < b <= n and ahead == tuple(p for p in range(a + 1, b) if p in ahead)


@functools.cache
def arc_at(row, i):
    a, b = sorted(row[i:i + 2])
    return (a, b, tuple(p for p in range(a + 1, b) if row.index(p) < i))


def falls(row):
    return [i for i in range(len(row) - 1) if row[i] > row[i + 1]]


def rises(row):
    return [i for i in range(len(row) - 1) if row[i] < row[i + 1]]


def arcs_at(row, places):
    return tuple(sorted(arc_at(row, i) for i in places))


def lies_within(one, other):
    (c, d, some), (a, b, ahead) = one, other
    return c >= a and d <= b and set(some) == {p for p in ahead if c < p < d}


def side(arc, p):
    a, b, ahead = arc
    return 0 if p in (a, b) else 1 if p in ahead else -1


def crossings(one, other):
    """All certificates of a crossing of two arcs."""
    shared = range(max(one[0], other[0]), min(one[1], other[1]) + 1)
    greater = [p for p in shared if side(one, p) > side(other, p)]
    less = [q for q in shared if side(one, q) < side(other, q)]
    return [("cross", p, q) for p in greater for q in less]


def go_together(one, other):
    return one[0] != other[0] and one[1] != other[1] and not crossings(one, other)


def lots(n):
    """All lots: each tuple goes on by arcs behind its last one that go with all its arcs."""
    found = [()]
    for lot in found:
        found += [
            lot + (arc,) for arc in arcs(n)
            if (not lot or lot[-1] < arc) and all(go_together(one, arc) for one in lot)
        ]
    return sorted(found)


def order_certificates(some):
    return [("order", i) for i in range(len(some) - 1) if some[i] >= some[i + 1]]


def lot_certificates(some):
    """All right certificates for a tuple of arcs."""
    found = order_certificates(some)
    for one, other in itertools.combinations(some, 2):
        if one != other and (one[0] == other[0] or one[1] == other[1]):
            found.append(("ends", one, other))
        found += [("cross", one, other, p, q) for _, p, q in crossings(one, other)]
    return found or [("lot",)]


def within(n, arc):
    return [other for other in arcs(n) if lies_within(other, arc)]


@functools.cache
def rules(n):
    """All rules: what lies within some arcs, taken together in all ways."""
    found = {frozenset()}
    for arc in arcs(n):
        found |= {some | set(within(n, arc)) for some in found}
    return sorted(tuple(sorted(some)) for some in found)


def is_ascending_arcs(n, thing):
    """Whether any value is an ascending tuple of arcs."""
    return type(thing) is tuple and all(is_arc(n, arc) for arc in thing) and list(thing) == sorted(set(thing))


def lacking(n, some):
    """All certificates that an ascending tuple of arcs is no rule."""
    return [("lacks", one, other) for one in some for other in within(n, one) if other not in some]


def is_rule(n, thing):
    return is_ascending_arcs(n, thing) and not lacking(n, thing)


def widest(n, some):
    return tuple(arc for arc in arcs(n) if not any(lies_within(one, arc) for one in some))


def least_blind(n, rule):
    return tuple(
        arc for arc in arcs(n)
        if arc not in rule and all(other in rule for other in within(n, arc) if other != arc)
    )


def one_class(rule, row):
    """All rows to which blind exchanges lead from a row."""
    counting, seen, found = set(rule), {row}, [row]
    for one in found:
        for i in range(len(row) - 1):
            other = exchanged(one, i)
            if arc_at(one, i) not in counting and other not in seen:
                seen.add(other)
                found.append(other)
    return tuple(sorted(found))


@functools.cache
def parts(n, rule):
    """A dict of the classes of all rows."""
    found = {}
    for row in rows(n):
        if row not in found:
            some = one_class(rule, row)
            found.update({other: some for other in some})
    return found


def bottom(some):
    """The one row of many rows that is below all of them."""
    low = min(some, key=lambda row: len(turned(row)))
    assert all(is_below(low, row) for row in some)
    return low


def top(some):
    high = max(some, key=lambda row: len(turned(row)))
    assert all(is_below(row, high) for row in some)
    return high


@functools.cache
def first(n, rule, row):
    """The row of the class of a row that is below all of the class."""
    return bottom(parts(n, rule)[row])


@functools.cache
def last(n, rule, row):
    return top(parts(n, rule)[row])


@functools.cache
def joined(pair):
    """The greatest row below both rows of a pair and the least row above both."""
    one, other = pair
    some = rows(len(one))
    low = top(tuple(row for row in some if is_below(row, one) and is_below(row, other)))
    high = bottom(tuple(row for row in some if is_below(one, row) and is_below(other, row)))
    return low, high


@functools.cache
def ways_up(low, high):
    """All tuples of positions of exchanges that make rises falls and lead from a row to another one."""
    if low == high:
        return [()]
    return [
        (i, *steps) for i in rises(low) if is_below(exchanged(low, i), high)
        for steps in ways_up(exchanged(low, i), high)
    ]


def end_of(row, steps):
    """The row to which exchanges at some positions lead."""
    for i in steps:
        row = exchanged(row, i)
    return row


def arcs_of_steps(row, steps):
    return [arc_at(end_of(row, steps[:k]), i) for k, i in enumerate(steps)]


def is_places(n, thing):
    """Whether any value is a tuple of positions of exchanges."""
    return type(thing) is tuple and all(type(i) is int and 0 <= i < n - 1 for i in thing)

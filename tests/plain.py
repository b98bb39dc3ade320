"""Plain searches through all rows, arcs and lots of small n, written after the document's words.

Nothing here calls the package.
"""

import itertools


def rows(n):
    return list(itertools.permutations(range(1, n + 1)))


def is_row(n, thing):
    """For n that are too great for a list of all rows."""
    if type(thing) is not tuple or any(type(p) is not int for p in thing):
        return False
    return len(thing) == n and all(p in thing for p in range(1, n + 1))


def number_pairs(n):
    return [(a, b) for a in range(1, n + 1) for b in range(a + 1, n + 1)]


def turned(row):
    return {(a, b) for a, b in number_pairs(len(row)) if row.index(b) < row.index(a)}


def is_below(one, other):
    return turned(one) <= turned(other)


def least(some):
    """The one row of some rows that is below all of them."""
    found = [row for row in some if all(is_below(row, other) for other in some)]
    (only,) = found
    return only


def greatest(some):
    found = [row for row in some if all(is_below(other, row) for other in some)]
    (only,) = found
    return only


def exchanged(row, i):
    changed = list(row)
    changed[i], changed[i + 1] = changed[i + 1], changed[i]
    return tuple(changed)


def distances(row):
    """A dict of the least numbers of exchanges that lead from a row to all rows."""
    found = {row: 0}
    waiting = [row]
    for one in waiting:
        for i in range(len(row) - 1):
            other = exchanged(one, i)
            if other not in found:
                found[other] = found[one] + 1
                waiting.append(other)
    return found


def reached(n, pairs):
    """All (a, c) such that steps along the pairs lead from a to c."""
    found = set()
    for a in range(1, n + 1):
        waiting = [a]
        for one in waiting:
            for low, high in pairs:
                if low == one and (a, high) not in found:
                    found.add((a, high))
                    waiting.append(high)
    return found


def arcs(n):
    found = []
    for a, b in number_pairs(n):
        between = range(a + 1, b)
        for many in range(len(between) + 1):
            found += [(a, b, ahead) for ahead in itertools.combinations(between, many)]
    return sorted(found)


def is_arc(n, thing):
    """For n that are too great for a list of all arcs."""
    if type(thing) is not tuple or len(thing) != 3 or type(thing[2]) is not tuple:
        return False
    if any(type(p) is not int for p in (*thing[:2], *thing[2])):
        return False
    a, b, ahead = thing
    return 1 <= a < b <= n and ahead == tuple(p for p in range(a + 1, b) if p in ahead)


def arc_at(row, i):
    a, b = sorted(row[i:i + 2])
    return (a, b, tuple(p for p in range(a + 1, b) if row.index(p) < i))


def falls(row):
    return [i for i in range(len(row) - 1) if row[i] > row[i + 1]]


def rises(row):
    return [i for i in range(len(row) - 1) if row[i] < row[i + 1]]


def arcs_at(row, places):
    return tuple(sorted(arc_at(row, i) for i in places))


def lies_within(one, other):
    (c, d, some), (a, b, ahead) = one, other
    return c >= a and d <= b and set(some) == {p for p in ahead if c < p < d}


def side(arc, p):
    a, b, ahead = arc
    return 0 if p in (a, b) else 1 if p in ahead else -1


def crossings(one, other):
    """All certificates of a crossing of two arcs."""
    shared = range(max(one[0], other[0]), min(one[1], other[1]) + 1)
    greater = [p for p in shared if side(one, p) > side(other, p)]
    less = [q for q in shared if side(one, q) < side(other, q)]
    return [("cross", p, q) for p in greater for q in less]


def go_together(one, other):
    return one[0] != other[0] and one[1] != other[1] and not crossings(one, other)


def lots(n):
    """All lots: each tuple goes on by arcs behind its last one that go with all its arcs."""
    found = [()]
    for lot in found:
        found += [
            lot + (arc,) for arc in arcs(n)
            if (not lot or lot[-1] < arc) and all(go_together(one, arc) for one in lot)
        ]
    return sorted(found)


def order_certificates(some):
    return [("order", i) for i in range(len(some) - 1) if some[i] >= some[i + 1]]


def lot_certificates(some):
    """All right certificates for a tuple of arcs."""
    found = order_certificates(some)
    for one, other in itertools.combinations(some, 2):
        if one != other and (one[0] == other[0] or one[1] == other[1]):
            found.append(("ends", one, other))
        found += [("cross", one, other, p, q) for _, p, q in crossings(one, other)]
    return found or [("lot",)]

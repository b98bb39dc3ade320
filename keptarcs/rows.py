"""Rows: their turned pairs, their order, least rows above and greatest rows below."""

from itertools import permutations

from keptarcs.errors import BadNumber, BadPairs, BadRow
from keptarcs.kinds import are_numbers, is_certificate, is_number_from


def is_row(n, thing):
    """Whether any value is a row of n."""
    return are_numbers(thing) and sorted(thing) == list(range(1, n + 1))


def check_row(n, row):
    """Raise BadRow with a value that is no row."""
    if not is_row(n, row):
        raise BadRow(row)


def check_place(n, i):
    """Raise BadNumber with a value that is no position of an exchange."""
    if not is_number_from(i, 0, n - 2):
        raise BadNumber(i)


def turned_pairs(n, row):
    """The ascending tuple of the turned pairs of a row."""
    check_row(n, row)
    pairs = [(low, high) for i, high in enumerate(row) for low in row[i + 1:] if low < high]
    return tuple(sorted(pairs))


def mirror(n, row):
    """The row read backward."""
    check_row(n, row)
    return row[::-1]


def exchanged(n, row, i):
    """The row in which the numbers at i and i + 1 have changed places."""
    check_row(n, row)
    check_place(n, i)
    return row[:i] + (row[i + 1], row[i]) + row[i + 2:]


def row_turning(n, turned):
    """The row whose turned pairs are the keys of a dict, if there is such a row.

    Otherwise it is some row, which has other turned pairs.
    """
    places = []
    for p in range(1, n + 1):
        lesser = [a for a in range(1, p) if (a, p) not in turned]
        greater = [b for b in range(p + 1, n + 1) if (p, b) in turned]
        places.append((len(lesser) + len(greater), p))
    return tuple([p for place, p in sorted(places)])


def are_pairs_of_numbers(thing):
    """Whether any value is a tuple of pairs of integers."""
    if not isinstance(thing, tuple):
        return False
    return all([are_numbers(pair) and len(pair) == 2 for pair in thing])


def row_by_pairs(n, pairs):
    """The row whose turned pairs these are."""
    if not are_pairs_of_numbers(pairs):
        raise BadPairs(pairs)
    row = row_turning(n, {pair: True for pair in pairs})
    if turned_pairs(n, row) != pairs:
        raise BadPairs(pairs)
    return row


def pairs_only_in(pairs, others):
    """The list of those pairs that are none of the others."""
    known = set(others)
    return [pair for pair in pairs if pair not in known]


def pairs_not_below(n, one, other):
    """The list of the pairs that are turned in the first row and not in the second one."""
    first = turned_pairs(n, one)
    second = turned_pairs(n, other)
    return pairs_only_in(first, second)


def parted_pairs(n, one, other):
    """The list of the pairs that are turned in just one of two rows."""
    return pairs_not_below(n, one, other) + pairs_not_below(n, other, one)


def tells_pair(thing, pairs):
    """Whether any value is a certificate that tells one of the pairs."""
    return is_certificate(thing, "pair", 3) and are_numbers(thing[1:]) and thing[1:] in pairs


def is_below(n, one, other):
    """Whether the first row is below the second one."""
    return len(pairs_not_below(n, one, other)) == 0


def judge_below(n, one, other):
    """A certificate of whether the first row is below the second one."""
    pairs = pairs_not_below(n, one, other)
    if pairs:
        return ("pair",) + pairs[0]
    return ("below",)


def below_holds(n, one, other, thing):
    """Whether any value is a certificate for the first row and the second one."""
    pairs = pairs_not_below(n, one, other)
    if pairs:
        return tells_pair(thing, pairs)
    return is_certificate(thing, "below", 1)


def distance(n, one, other):
    """The number of pairs that are turned in just one of two rows."""
    return len(parted_pairs(n, one, other))


def chained(n, pairs):
    """A dict whose keys are the pairs, and each (a, c) for which it has (a, b) and (b, c)."""
    turned = {pair: True for pair in pairs}
    for b in range(2, n):
        lesser = [a for a in range(1, b) if (a, b) in turned]
        greater = [c for c in range(b + 1, n + 1) if (b, c) in turned]
        for a in lesser:
            for c in greater:
                turned[(a, c)] = True
    return turned


def least_above(n, one, other):
    """The least row that both rows are below."""
    pairs = turned_pairs(n, one) + turned_pairs(n, other)
    return row_turning(n, chained(n, pairs))


def greatest_below(n, one, other):
    """The greatest row that is below both rows."""
    return mirror(n, least_above(n, mirror(n, one), mirror(n, other)))


def all_rows(n):
    """The ascending tuple of all rows."""
    return tuple(permutations(range(1, n + 1)))

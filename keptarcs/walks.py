"""Ways along exchanges: the rows that they lead through, and the arcs that they have."""

from keptarcs.arcs import arc_at
from keptarcs.kinds import are_numbers, is_number_from
from keptarcs.rows import exchanged, turned_pairs


def are_places(n, thing):
    """Whether any value is a tuple of positions of exchanges."""
    return are_numbers(thing) and all([is_number_from(i, 0, n - 2) for i in thing])


def rows_along(n, row, steps):
    """The list of a row and of the rows behind each exchange of a way."""
    found = [row]
    for i in steps:
        row = exchanged(n, row, i)
        found.append(row)
    return found


def arcs_along(n, row, steps):
    """The list of the arcs of the exchanges of a way, in their order."""
    return [arc_at(n, one, i) for one, i in zip(rows_along(n, row, steps), steps)]


def rises_along(n, row, steps):
    """Whether each exchange of a way makes a rise a fall."""
    return all([one[i] < one[i + 1] for one, i in zip(rows_along(n, row, steps), steps)])


def rises_turned(n, row, high):
    """The list of the positions of the rises of a row whose pairs are turned in another row."""
    turned = set(turned_pairs(n, high))
    return [i for i in range(n - 1) if (row[i], row[i + 1]) in turned]


def way_up(n, low, high):
    """A way from a row to a row above it along exchanges that make rises falls."""
    steps = []
    row = low
    while row != high:
        # A row is told by how its neighbours stand, so there is such a rise while the rows are unlike.
        i = rises_turned(n, row, high)[0]
        steps.append(i)
        row = exchanged(n, row, i)
    return tuple(steps)

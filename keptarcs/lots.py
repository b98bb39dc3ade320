"""Lots of arcs, the rows that they tell by falls or rises, and what tuples of rows make."""

from keptarcs.arcs import arcs_of_falls, arcs_of_rises, crossing_holds, is_arc
from keptarcs.arcs import judge_crossing, numbers_behind, single_row
from keptarcs.errors import BadLot
from keptarcs.kinds import is_certificate, is_number_from
from keptarcs.rows import all_rows, check_row, is_row, least_above, mirror, parted_pairs, tells_pair


def are_arcs(n, thing):
    """Whether any value is a tuple of arcs."""
    return isinstance(thing, tuple) and all([is_arc(n, arc) for arc in thing])


def check_arcs(n, arcs):
    """Raise BadLot with a value that is no tuple of arcs."""
    if not are_arcs(n, arcs):
        raise BadLot(arcs)


def is_lot(n, thing):
    """Whether any value is a lot."""
    return are_arcs(n, thing) and judge_lot(n, thing) == ("lot",)


def check_lot(n, lot):
    """Raise BadLot with a value that is no lot."""
    if not is_lot(n, lot):
        raise BadLot(lot)


def share_an_end(one, other):
    """Whether two arcs have the same lower end or the same upper end."""
    return one[0] == other[0] or one[1] == other[1]


def arcs_two_by_two(arcs):
    """The list of all (one, other) of which the first stands ahead of the second."""
    return [(one, other) for i, one in enumerate(arcs) for other in arcs[i + 1:]]


def judge_lot(n, arcs):
    """A certificate of whether a tuple of arcs is a lot."""
    check_arcs(n, arcs)
    for i in range(len(arcs) - 1):
        if not arcs[i] < arcs[i + 1]:
            return ("order", i)
    # No arc stands twice from here on, so two that share an end are unlike.
    for one, other in arcs_two_by_two(arcs):
        if share_an_end(one, other):
            return ("ends", one, other)
    for one, other in arcs_two_by_two(arcs):
        verdict = judge_crossing(n, one, other)
        if verdict[0] == "cross":
            return ("cross", one, other) + verdict[1:]
    return ("lot",)


def stand_in_order(n, arcs, one, other):
    """Whether any two values are arcs of a tuple, the first one standing ahead."""
    # True equals 1, so a value that is found in the tuple need not be an arc.
    if not is_arc(n, one) or not is_arc(n, other) or one not in arcs:
        return False
    return other in arcs[arcs.index(one) + 1:]


def ends_hold(n, arcs, one, other):
    """Whether any two values are unlike arcs of a tuple, in order, that share an end."""
    return stand_in_order(n, arcs, one, other) and one != other and share_an_end(one, other)


def lot_holds(n, arcs, thing):
    """Whether any value is a certificate for a tuple of arcs."""
    check_arcs(n, arcs)
    if is_certificate(thing, "lot", 1):
        return is_lot(n, arcs)
    if is_certificate(thing, "order", 2):
        i = thing[1]
        return is_number_from(i, 0, len(arcs) - 2) and not arcs[i] < arcs[i + 1]
    if is_certificate(thing, "ends", 3):
        return ends_hold(n, arcs, thing[1], thing[2])
    if is_certificate(thing, "cross", 5):
        one, other, p, q = thing[1:]
        return stand_in_order(n, arcs, one, other) and crossing_holds(n, one, other, ("cross", p, q))
    return False


def all_lots(n):
    """The ascending tuple of all lots: each is that of the falls of just one row."""
    return tuple(sorted([arcs_of_falls(n, row) for row in all_rows(n)]))


def lot_of_falls(n, row):
    """The lot of the arcs of the falls of a row."""
    return arcs_of_falls(n, row)


def lot_of_rises(n, row):
    """The lot of the arcs of the rises of a row."""
    return arcs_of_rises(n, row)


def least_above_all(n, rows):
    """The least row that all rows are below; the ascending one if there are none."""
    least = tuple(range(1, n + 1))
    for row in rows:
        least = least_above(n, least, row)
    return least


def row_of_falls(n, lot):
    """The row whose falls have the arcs of a lot."""
    check_lot(n, lot)
    return least_above_all(n, [single_row(n, arc) for arc in lot])


def turned_over(arc):
    """The arc with the same ends that has ahead just what the other one has not."""
    return (arc[0], arc[1], numbers_behind(arc))


def row_of_rises(n, lot):
    """The row whose rises have the arcs of a lot."""
    check_lot(n, lot)
    over = tuple(sorted([turned_over(arc) for arc in lot]))
    return mirror(n, row_of_falls(n, over))


def check_rows(n, rows):
    """Raise BadLot with a value that is no tuple of rows."""
    if not isinstance(rows, tuple) or not all([is_row(n, row) for row in rows]):
        raise BadLot(rows)


def pairs_unmade(n, row, rows):
    """The list of the pairs that are turned in just one of a row and what the rows make."""
    check_row(n, row)
    check_rows(n, rows)
    return parted_pairs(n, row, least_above_all(n, rows))


def judge_making(n, row, rows):
    """A certificate of whether a tuple of rows makes a row."""
    pairs = pairs_unmade(n, row, rows)
    if pairs:
        return ("pair",) + pairs[0]
    return ("makes",)


def making_holds(n, row, rows, thing):
    """Whether any value is a certificate for a row and a tuple of rows."""
    pairs = pairs_unmade(n, row, rows)
    if pairs:
        return tells_pair(thing, pairs)
    return is_certificate(thing, "makes", 1)

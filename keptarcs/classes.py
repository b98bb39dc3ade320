"""Classes of rows that are one by a rule: first and last rows, lots, and rows that are one."""

from keptarcs.arcs import arc_at, arcs_of_falls
from keptarcs.errors import BadLot
from keptarcs.kinds import is_certificate, is_number
from keptarcs.lots import is_lot, row_of_falls
from keptarcs.rows import all_rows, check_row, exchanged, is_below
from keptarcs.rules import check_rule
from keptarcs.walks import are_places, arcs_along, rows_along


def check_rule_and_rows(n, rule, rows):
    """Raise BadRule with a value that is no rule, then BadRow with the first value that is no row."""
    check_rule(n, rule)
    for row in rows:
        check_row(n, row)


def blind_falls(n, rule, row):
    """The list of the positions of the blind falls of a row."""
    return [i for i in range(n - 1) if row[i] > row[i + 1] and arc_at(n, row, i) not in rule]


def blind_rises(n, rule, row):
    """The list of the positions of the blind rises of a row."""
    return [i for i in range(n - 1) if row[i] < row[i + 1] and arc_at(n, row, i) not in rule]


def way_to_first(n, rule, row):
    """A way from a row to the first row of its class along blind falls."""
    steps = []
    falls = blind_falls(n, rule, row)
    while falls:
        steps.append(falls[0])
        row = exchanged(n, row, falls[0])
        falls = blind_falls(n, rule, row)
    return tuple(steps)


def first_in_class(n, rule, row):
    """The first row of the class of a row, for a rule that is known to be one."""
    return rows_along(n, row, way_to_first(n, rule, row))[-1]


def last_in_class(n, rule, row):
    """The last row of the class of a row, for a rule that is known to be one."""
    rises = blind_rises(n, rule, row)
    while rises:
        row = exchanged(n, row, rises[0])
        rises = blind_rises(n, rule, row)
    return row


def first_row(n, rule, row):
    """The first row of the class of a row."""
    check_rule_and_rows(n, rule, (row,))
    return first_in_class(n, rule, row)


def last_row(n, rule, row):
    """The last row of the class of a row."""
    check_rule_and_rows(n, rule, (row,))
    return last_in_class(n, rule, row)


def judge_first(n, rule, row):
    """A certificate of whether a row is a first row."""
    check_rule_and_rows(n, rule, (row,))
    falls = blind_falls(n, rule, row)
    if falls:
        return ("fall", falls[0])
    return ("first",)


def first_holds(n, rule, row, thing):
    """Whether any value is a certificate for a row."""
    check_rule_and_rows(n, rule, (row,))
    falls = blind_falls(n, rule, row)
    if falls:
        return is_certificate(thing, "fall", 2) and is_number(thing[1]) and thing[1] in falls
    return is_certificate(thing, "first", 1)


def way_down(n, rule, row):
    """A way from a row to the first row of its class along blind falls."""
    check_rule_and_rows(n, rule, (row,))
    return way_to_first(n, rule, row)


def are_one(n, rule, one, other):
    """Whether two rows are one by a rule."""
    check_rule_and_rows(n, rule, (one, other))
    return first_in_class(n, rule, one) == first_in_class(n, rule, other)


def lot_in_class(n, rule, row):
    """The lot of the class of a row, for a rule that is known to be one."""
    return arcs_of_falls(n, first_in_class(n, rule, row))


def judge_one(n, rule, one, other):
    """A certificate of whether two rows are one by a rule."""
    if are_one(n, rule, one, other):
        # What leads from the second row to the first row of its class leads back if it is gone backward.
        return ("ways", way_to_first(n, rule, one) + way_to_first(n, rule, other)[::-1])
    return ("lots", lot_in_class(n, rule, one), lot_in_class(n, rule, other))


def ways_hold(n, rule, one, other, steps):
    """Whether any value is a way between two rows along blind exchanges."""
    if not are_places(n, steps) or rows_along(n, one, steps)[-1] != other:
        return False
    return all([arc not in rule for arc in arcs_along(n, one, steps)])


def lots_hold(n, rule, rows, lots):
    """Whether any two values are the lots of the classes of two rows, and unlike."""
    # True equals 1, so a value that equals a lot need not be one.
    if not all([is_lot(n, lot) for lot in lots]) or lots[0] == lots[1]:
        return False
    return lots == tuple([lot_in_class(n, rule, row) for row in rows])


def one_holds(n, rule, one, other, thing):
    """Whether any value is a certificate for two rows."""
    check_rule_and_rows(n, rule, (one, other))
    if is_certificate(thing, "ways", 2):
        return ways_hold(n, rule, one, other, thing[1])
    return is_certificate(thing, "lots", 3) and lots_hold(n, rule, (one, other), thing[1:])


def class_of(n, rule, row):
    """The ascending tuple of the rows of the class of a row."""
    low = first_row(n, rule, row)
    high = last_row(n, rule, row)
    return tuple([some for some in all_rows(n) if is_below(n, low, some) and is_below(n, some, high)])


def lot_of_class(n, rule, row):
    """The lot of the class of a row."""
    check_rule_and_rows(n, rule, (row,))
    return lot_in_class(n, rule, row)


def row_of_lot(n, rule, lot):
    """The first row of the class with a lot."""
    check_rule(n, rule)
    if not is_lot(n, lot) or not all([arc in rule for arc in lot]):
        raise BadLot(lot)
    return row_of_falls(n, lot)


def classes(n, rule):
    """The ascending tuple of the first rows of all classes."""
    check_rule(n, rule)
    return tuple([row for row in all_rows(n) if len(blind_falls(n, rule, row)) == 0])


def many_classes(n, rule):
    """How many classes there are."""
    return len(classes(n, rule))

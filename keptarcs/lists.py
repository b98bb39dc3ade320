"""Lists that go through all classes of a rule, so that each next one is a neighbour of the one ahead."""

from keptarcs.arcs import arc_at
from keptarcs.classes import check_rule_and_rows, first_in_class
from keptarcs.errors import BadNumber
from keptarcs.kinds import is_number_from
from keptarcs.rules import check_rule


def lesser_rule(n, rule):
    """The rule for n - 1 with those arcs of a rule whose upper end is below n."""
    check_rule(n, rule)
    return tuple([arc for arc in rule if arc[1] < n])


def put_in(row, number, place):
    """The row with a number put in at a place."""
    return row[:place] + (number,) + row[place:]


def listed_places(n, rule, row):
    """The list of the places, from the right to the left, at which n is put into a listed row of n - 1."""
    if (n - 1, n, ()) not in rule:
        return [n - 1]
    # A place from which n can go to the right by a counting exchange only is the farthest right of its group.
    ends = [k for k in range(n - 2, -1, -1) if arc_at(n, put_in(row, n, k), k) in rule]
    # There is a group beside that of the right end, as n passes n - 1 by a counting exchange.
    return [n - 1] + ends[:-1] + [0]


def rows_with(n, rule, rows):
    """The list of rows of n that comes of the list of rows of n - 1."""
    found = []
    for at, row in enumerate(rows):
        places = listed_places(n, rule, row)
        if at % 2 == 1:
            places = places[::-1]
        found.extend([put_in(row, n, place) for place in places])
    return found


def gone_through(n, rule):
    """The list of a rule."""
    check_rule(n, rule)
    rows = [(1,)]
    # Arcs of rows of fewer numbers count by the lesser rules exactly if they count by the rule itself.
    for many in range(2, n + 1):
        rows = rows_with(many, rule, rows)
    return tuple(rows)


def listed_in_class(n, rule, row):
    """The listed row of the class of a row, for a rule that is known to be one."""
    if n == 1:
        return row
    # Rows that are one stay one if n is taken out of them.
    lesser = listed_in_class(n - 1, rule, tuple([p for p in row if p < n]))
    first = first_in_class(n, rule, row)
    rows = [put_in(lesser, n, place) for place in listed_places(n, rule, lesser)]
    return [some for some in rows if first_in_class(n, rule, some) == first][0]


def listed_row(n, rule, row):
    """The listed row of the class of a row."""
    check_rule_and_rows(n, rule, (row,))
    return listed_in_class(n, rule, row)


def place_in_list(n, rule, row):
    """The position of the listed row of the class of a row."""
    check_rule_and_rows(n, rule, (row,))
    return gone_through(n, rule).index(listed_in_class(n, rule, row))


def row_at(n, rule, number):
    """The row of the list at a position."""
    rows = gone_through(n, rule)
    if not is_number_from(number, 0, len(rows) - 1):
        raise BadNumber(number)
    return rows[number]

"""Full rules, and even ones: those by which each class has n - 1 neighbours."""

from keptarcs.arcs import arcs_of_falls, arcs_of_rises, is_arc, numbers_behind
from keptarcs.classes import check_rule_and_rows, classes, first_in_class, last_in_class
from keptarcs.errors import BadRule
from keptarcs.kinds import is_certificate
from keptarcs.rows import is_row
from keptarcs.rules import check_rule, least_blind


def is_full(n, rule):
    """Whether no arc of two numbers next to one another is blind."""
    check_rule(n, rule)
    return all([(i, i + 1, ()) in rule for i in range(1, n)])


def check_full_rule(n, rule):
    """Raise BadRule with a value that is no full rule."""
    if not is_full(n, rule):
        raise BadRule(rule)


def neighbours_counted(n, rule, row):
    """How many neighbours the class of a row has, for a rule that is known to be one."""
    lower = arcs_of_falls(n, first_in_class(n, rule, row))
    upper = arcs_of_rises(n, last_in_class(n, rule, row))
    return len(lower) + len(upper)


def many_neighbours(n, rule, row):
    """How many neighbours the class of a row has."""
    check_rule_and_rows(n, rule, (row,))
    return neighbours_counted(n, rule, row)


def uneven_arcs(n, rule):
    """The list of the least blind arcs with some, but not all, of the numbers between their ends ahead."""
    return [arc for arc in least_blind(n, rule) if arc[2] and numbers_behind(arc)]


def is_uneven_row(n, rule, row):
    """Whether the class of a row has not n - 1 neighbours."""
    return neighbours_counted(n, rule, row) != n - 1


def uneven_row(n, rule):
    """The first one of all first rows whose class has not n - 1 neighbours, or None."""
    for row in classes(n, rule):
        if is_uneven_row(n, rule, row):
            return row
    return None


def judge_even(n, rule):
    """A certificate of whether a full rule is even."""
    check_full_rule(n, rule)
    arcs = uneven_arcs(n, rule)
    if arcs:
        return ("uneven", arcs[0], uneven_row(n, rule))
    return ("even",)


def even_holds(n, rule, thing):
    """Whether any value is a certificate for a full rule."""
    check_full_rule(n, rule)
    arcs = uneven_arcs(n, rule)
    if not arcs:
        return is_certificate(thing, "even", 1)
    if not is_certificate(thing, "uneven", 3) or not is_arc(n, thing[1]) or not is_row(n, thing[2]):
        return False
    return thing[1] in arcs and is_uneven_row(n, rule, thing[2])

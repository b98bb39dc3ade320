"""The finest rule by which told pairs of rows are one, and why its arcs are blind or count."""

from keptarcs.arcs import check_arc, lies_within
from keptarcs.errors import BadPairs
from keptarcs.kinds import is_certificate, is_number_from
from keptarcs.rows import greatest_below, is_row, least_above
from keptarcs.rules import is_finer, is_rule, widest_rule
from keptarcs.walks import are_places, arcs_along, rises_along, rows_along, way_up


def is_pair_of_rows(n, thing):
    """Whether any value is a pair of rows."""
    return isinstance(thing, tuple) and len(thing) == 2 and all([is_row(n, row) for row in thing])


def check_pairs(n, pairs):
    """Raise BadPairs with a value that is no tuple of pairs of rows."""
    if not isinstance(pairs, tuple) or not all([is_pair_of_rows(n, pair) for pair in pairs]):
        raise BadPairs(pairs)


def bounds(n, pair):
    """The greatest row below both rows of a pair, and the least row above both."""
    one, other = pair
    return greatest_below(n, one, other), least_above(n, one, other)


def given_arcs(n, pair):
    """The list of the arcs that a pair gives."""
    low, high = bounds(n, pair)
    return arcs_along(n, low, way_up(n, low, high))


def finest_rule(n, pairs):
    """The finest rule by which each told pair is one."""
    check_pairs(n, pairs)
    arcs = [arc for pair in pairs for arc in given_arcs(n, pair)]
    return widest_rule(n, tuple(sorted(set(arcs))))


def reasons(n, pair, at, arc):
    """The list of certificates that an arc is blind, by one way for the pair at a position."""
    low, high = bounds(n, pair)
    steps = way_up(n, low, high)
    given = arcs_along(n, low, steps)
    return [("blind", at, i, steps) for i, one in enumerate(given) if lies_within(n, one, arc)]


def judge_arc(n, pairs, arc):
    """A certificate of whether an arc is blind by the finest rule for pairs."""
    rule = finest_rule(n, pairs)
    check_arc(n, arc)
    if arc in rule:
        return ("counts", rule)
    found = [reason for at, pair in enumerate(pairs) for reason in reasons(n, pair, at, arc)]
    return found[0]


def counts_holds(n, pairs, arc, rule):
    """Whether any value is a rule with an arc by which each told pair is one."""
    # The told pairs are one by just those rules than which the finest rule is finer.
    return is_rule(n, rule) and arc in rule and is_finer(n, finest_rule(n, pairs), rule)


def leads_up(n, low, high, steps):
    """Whether any value is a way between two rows along exchanges that make rises falls."""
    if not are_places(n, steps):
        return False
    return rises_along(n, low, steps) and rows_along(n, low, steps)[-1] == high


def blind_holds(n, pairs, arc, told):
    """Whether any three values are the position of a pair, one of a step, and steps that make an arc blind."""
    at, i, steps = told
    if not is_number_from(at, 0, len(pairs) - 1):
        return False
    low, high = bounds(n, pairs[at])
    if not leads_up(n, low, high, steps) or not is_number_from(i, 0, len(steps) - 1):
        return False
    return lies_within(n, arcs_along(n, low, steps)[i], arc)


def arc_holds(n, pairs, arc, thing):
    """Whether any value is a certificate for pairs and an arc."""
    check_pairs(n, pairs)
    check_arc(n, arc)
    if is_certificate(thing, "counts", 2):
        return counts_holds(n, pairs, arc, thing[1])
    return is_certificate(thing, "blind", 4) and blind_holds(n, pairs, arc, thing[1:])

"""Rules: ascending tuples of counting arcs that have with each arc all arcs within it."""

from keptarcs.arcs import all_arcs, arcs_within, is_arc, lies_within, narrowed
from keptarcs.errors import BadRule
from keptarcs.kinds import is_certificate
from keptarcs.lots import are_arcs


def are_ascending_arcs(n, thing):
    """Whether any value is an ascending tuple of arcs."""
    return are_arcs(n, thing) and list(thing) == sorted(set(thing))


def check_ascending_arcs(n, arcs):
    """Raise BadRule with a value that is no ascending tuple of arcs."""
    if not are_ascending_arcs(n, arcs):
        raise BadRule(arcs)


def shortened(arc):
    """The list of the arcs within an arc that lack just one of its ends.

    All other arcs within it, but itself, lie within these.
    """
    a, b, _ = arc
    if b - a == 1:
        return []
    return [narrowed(arc, a, b - 1), narrowed(arc, a + 1, b)]


def lacking_pairs(arcs):
    """The list of pairs of an arc of a tuple and one within it, shortened, that is not in the tuple.

    If there is none, no arc within an arc of the tuple is lacking.
    """
    known = set(arcs)
    return [(one, other) for one in arcs for other in shortened(one) if other not in known]


def is_rule(n, thing):
    """Whether any value is a rule of n."""
    return are_ascending_arcs(n, thing) and len(lacking_pairs(thing)) == 0


def check_rule(n, rule):
    """Raise BadRule with a value that is no rule."""
    if not is_rule(n, rule):
        raise BadRule(rule)


def judge_rule(n, arcs):
    """A certificate of whether an ascending tuple of arcs is a rule."""
    check_ascending_arcs(n, arcs)
    pairs = lacking_pairs(arcs)
    if pairs:
        return ("lacks",) + pairs[0]
    return ("rule",)


def lacks_holds(n, arcs, one, other):
    """Whether any two values are an arc of a tuple and an arc within it that is not in the tuple."""
    # True equals 1, so a value that is found in the tuple need not be an arc.
    if not is_arc(n, one) or not is_arc(n, other):
        return False
    return one in arcs and other not in arcs and lies_within(n, other, one)


def rule_holds(n, arcs, thing):
    """Whether any value is a certificate for an ascending tuple of arcs."""
    check_ascending_arcs(n, arcs)
    if is_certificate(thing, "lacks", 3):
        return lacks_holds(n, arcs, thing[1], thing[2])
    return is_certificate(thing, "rule", 1) and is_rule(n, arcs)


def widest_rule(n, arcs):
    """The rule of all arcs within which none of some arcs lies."""
    check_ascending_arcs(n, arcs)
    return tuple([arc for arc in all_arcs(n) if len(set(arcs) & set(arcs_within(n, arc))) == 0])


def least_blind(n, rule):
    """The ascending tuple of the blind arcs that have no other blind arc within them."""
    check_rule(n, rule)
    blind = [arc for arc in all_arcs(n) if arc not in rule]
    return tuple([arc for arc in blind if all([other in rule for other in shortened(arc)])])


def check_two_rules(n, one, other):
    """Raise BadRule with the first one of two values that is no rule."""
    check_rule(n, one)
    check_rule(n, other)


def rules_together(n, one, other):
    """The rule whose counting arcs are those of one of two rules."""
    check_two_rules(n, one, other)
    return tuple(sorted(set(one) | set(other)))


def rules_common(n, one, other):
    """The rule whose counting arcs are those of both rules."""
    check_two_rules(n, one, other)
    return tuple(sorted(set(one) & set(other)))


def is_finer(n, one, other):
    """Whether the first rule has all counting arcs of the second one."""
    check_two_rules(n, one, other)
    return len(set(other) - set(one)) == 0


def arcs_by_length(n):
    """The list of all arcs, of which those with lesser gaps between their ends come first."""
    arcs = all_arcs(n)
    return [arc for gap in range(1, n) for arc in arcs if arc[1] - arc[0] == gap]


def all_rules(n):
    """The ascending tuple of all rules."""
    found = [()]
    # What lies within an arc comes ahead of it, so it is decided by then whether the arc may count.
    for arc in arcs_by_length(n):
        parts = shortened(arc)
        found = found + [some + (arc,) for some in found if all([part in some for part in parts])]
    return tuple(sorted([tuple(sorted(some)) for some in found]))


def many_rules(n):
    """How many rules there are."""
    return len(all_rules(n))

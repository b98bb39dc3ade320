"""Rules by marks: each number tells whether arcs that have it ahead, or behind, are blind."""

from keptarcs.arcs import all_arcs, is_arc, numbers_behind
from keptarcs.errors import BadMarks
from keptarcs.even import check_full_rule
from keptarcs.kinds import is_certificate
from keptarcs.rules import least_blind

WORDS = ("", "ahead", "behind", "both")


def is_marks(n, thing):
    """Whether any value is a tuple of marks for n."""
    if not isinstance(thing, tuple) or len(thing) != n:
        return False
    return all([isinstance(mark, str) and mark in WORDS for mark in thing])


def check_marks(n, marks):
    """Raise BadMarks with a value that is no tuple of marks."""
    if not is_marks(n, marks):
        raise BadMarks(marks)


def is_blind(marks, arc):
    """Whether an arc is blind by marks."""
    ahead = [marks[p - 1] for p in arc[2]]
    behind = [marks[p - 1] for p in numbers_behind(arc)]
    return "both" in ahead + behind or "ahead" in ahead or "behind" in behind


def rule_of_marks(n, marks):
    """The rule of marks."""
    check_marks(n, marks)
    return tuple([arc for arc in all_arcs(n) if not is_blind(marks, arc)])


def twin_rule(n):
    """The rule of the arcs that have none or all of the numbers between their ends ahead."""
    return tuple([arc for arc in all_arcs(n) if not arc[2] or not numbers_behind(arc)])


def long_arcs(n, rule):
    """The list of the least blind arcs of a full rule that pass more than one number."""
    return [arc for arc in least_blind(n, rule) if arc[1] - arc[0] != 2]


def mark_of(rule, p):
    """The mark of a number by the arcs that pass it alone."""
    ahead = (p - 1, p + 1, (p,)) not in rule
    behind = (p - 1, p + 1, ()) not in rule
    if ahead and behind:
        return "both"
    if ahead:
        return "ahead"
    if behind:
        return "behind"
    return ""


def marks_of(n, rule):
    """Marks that have a full rule, if there are any; those of 1 and n change nothing."""
    return tuple([mark_of(rule, p) if 1 < p < n else "" for p in range(1, n + 1)])


def judge_marked(n, rule):
    """A certificate of whether a full rule is that of some marks."""
    check_full_rule(n, rule)
    arcs = long_arcs(n, rule)
    if arcs:
        return ("long", arcs[0])
    return ("marks", marks_of(n, rule))


def marked_holds(n, rule, thing):
    """Whether any value is a certificate for a full rule."""
    check_full_rule(n, rule)
    if is_certificate(thing, "marks", 2):
        return is_marks(n, thing[1]) and rule_of_marks(n, thing[1]) == rule
    return is_certificate(thing, "long", 2) and is_arc(n, thing[1]) and thing[1] in long_arcs(n, rule)

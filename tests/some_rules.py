"""Rules of all kinds for the tests, and values that are none."""

import random

from tests import plain
from tests.values import ANY, instead_of, spoiled


def drawn(n, many, seed):
    """Some arcs, drawn in the same way each time, ascending."""
    arcs = plain.arcs(n)
    return tuple(sorted(random.Random(seed).sample(arcs, min(many, len(arcs)))))


def drawn_rows(n, many, seed):
    """Some rows, drawn in the same way each time."""
    draw = random.Random(seed)
    return [tuple(draw.sample(range(1, n + 1), n)) for _ in range(many)]


def of_few(n, some):
    """The rule of what lies within some arcs."""
    return tuple(sorted({other for arc in some for other in plain.within(n, arc)}))


def neighbours(n):
    return tuple((a, a + 1, ()) for a in range(1, n))


def trees(n):
    """The rule of the arcs that have no number ahead."""
    return tuple(arc for arc in plain.arcs(n) if arc[2] == ())


def some_rules(n):
    """All arcs, none, few, nearly all, the widest ones of drawn arcs, those by which one exchange is blind."""
    everything = tuple(plain.arcs(n))
    found = [everything, (), neighbours(n), trees(n)]
    if n > 1:
        found += [of_few(n, drawn(n, many, many)) for many in (1, 2)]
        found += [plain.widest(n, drawn(n, many, 10 * many)) for many in (1, 2, 3, 5)]
        found += [plain.widest(n, (arc,)) for arc in (everything[0], everything[-1], (1, n, ()))]
        found += [tuple(arc for arc in everything if arc != (1, n, tuple(range(2, n))))]
    return list(dict.fromkeys(found))


def bent(rule):
    """A rule with an arc left out, put in, twice, out of order, turned about, with other kinds in it."""
    found = [list(rule), rule + rule, rule[::-1], rule + (None,), (rule,), rule + ((1, 1, ()),)]
    for i, (a, b, ahead) in enumerate(rule):
        before, after = rule[:i], rule[i + 1:]
        found += [before + after, rule[:i + 1] + rule[i:], after + rule[:i + 1], rule[i:] + before]
        for arc in (
            (b, a, ahead), (a, b, list(ahead)), [a, b, ahead], (a, a + 100, ahead), (a, b), (a, b, ahead + (b,)),
            (a == 1, b, ahead), (a, str(b), ahead), (a, b, (True,)), (a, b, None), None, True, {}, i,
        ):
            found.append(before + (arc,) + after)
    return found


def wrong_rules(n):
    """Values that are no rules of n."""
    found = [*ANY, *(other for rule in some_rules(n) for other in bent(rule))]
    found += [tuple(plain.arcs(n + 1)), neighbours(n + 1), ((n, n + 1, ()),), ((0, 1, ()),)]
    found += [(arc,) for arc in plain.arcs(n)]
    if n == 3:
        found += [other for rule in plain.rules(3) for other in spoiled(rule)]
    return [thing for thing in found if not plain.is_rule(n, thing)]


def few_wrong_rules(n):
    """Some of them, for rules that are long to look through."""
    rule = tuple(plain.arcs(n))
    found = [*ANY, *instead_of(rule), rule[1:], rule + rule[-1:], rule[::-1], list(rule), (rule,)]
    found += [rule[:-1] + (arc,) for arc in ((n, n - 1, ()), (n - 1, n, (True,)), (n - 1, n, []), None)]
    found += [((True, 2, ()),) + rule[1:], tuple(plain.arcs(n + 1)), ((1, n, ()),), ((1, 3, (2,)), (2, 3, ()))]
    return [thing for thing in found if not plain.is_rule(n, thing)]


def is_full(n, rule):
    return set(neighbours(n)) <= set(rule)


def by_marks(n, marks):
    """The rule of marks, after the document's words."""
    def blind(arc):
        a, b, ahead = arc
        return any(
            marks[p - 1] in (("ahead", "both") if p in ahead else ("behind", "both")) for p in range(a + 1, b)
        )
    return tuple(arc for arc in plain.arcs(n) if not blind(arc))


def drawn_marks(n, many, seed):
    """Some marks, drawn in the same way each time."""
    draw = random.Random(seed)
    return [tuple(draw.choice(("", "", "ahead", "behind", "both")) for _ in range(n)) for _ in range(many)]


def full_rules(n):
    """The full ones among all rules, for small n."""
    return [rule for rule in plain.rules(n) if is_full(n, rule)]


def drawn_full(n, many, seed):
    """Full rules by which some drawn arcs are blind, even ones and others."""
    arcs = [arc for arc in plain.arcs(n) if arc[1] - arc[0] > 1]
    draw = random.Random(seed)
    return [plain.widest(n, draw.sample(arcs, min(len(arcs), draw.randint(1, 4)))) for _ in range(many)]


def rules_of_all_kinds(n):
    """Some rules, such by marks, full ones, and such by which the arc (n - 1, n, ()) is blind."""
    found = some_rules(n) + [by_marks(n, marks) for marks in drawn_marks(n, 4, n)]
    if n > 1:
        found += [plain.widest(n, ((n - 1, n, ()),)), plain.widest(n, ((1, 2, ()), (n - 1, n, ())))]
        found += [tuple(arc for arc in rule if arc[1] < n) for rule in found[:4]]
    if n > 2:
        found += drawn_full(n, 5, n)
    return list(dict.fromkeys(found))

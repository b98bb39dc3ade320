"""Small orders, maps of rows into them, and the orders of classes."""

from keptarcs.arcs import all_arcs, single_row
from keptarcs.classes import classes, first_in_class
from keptarcs.errors import BadMap, BadOrder
from keptarcs.kinds import are_numbers, is_certificate, is_number_from
from keptarcs.rows import all_rows, are_pairs_of_numbers, exchanged, greatest_below, is_below, is_row, least_above
from keptarcs.rules import is_rule

WORDS = ("above", "below")


def is_at_most(pairs, a, b):
    """Whether a thing is another one or below it."""
    return a == b or (a, b) in pairs


def least_things(order, a, b):
    """The list of the least thing above two things, if there is one."""
    m, pairs = order
    above = [c for c in range(m) if is_at_most(pairs, a, c) and is_at_most(pairs, b, c)]
    return [c for c in above if all([is_at_most(pairs, c, other) for other in above])]


def greatest_things(order, a, b):
    """The list of the greatest thing below two things, if there is one."""
    m, pairs = order
    below = [c for c in range(m) if is_at_most(pairs, c, a) and is_at_most(pairs, c, b)]
    return [c for c in below if all([is_at_most(pairs, other, c) for other in below])]


def are_pairs_of_things(m, thing):
    """Whether any value is an ascending tuple of pairs of unlike things."""
    if not are_pairs_of_numbers(thing) or list(thing) != sorted(set(thing)):
        return False
    return all([0 <= a < m and 0 <= b < m and a != b for a, b in thing])


def go_on(pairs):
    """Whether each two pairs of which one begins where the other one ends give a pair, and none leads back."""
    # A pair and the one that leads back would give a pair of like things, which there is none of.
    return all([(a, d) in pairs for a, b in pairs for c, d in pairs if b == c])


def is_order(thing):
    """Whether any value is a small order."""
    if not isinstance(thing, tuple) or len(thing) != 2 or not is_number_from(thing[0], 1, 8):
        return False
    m, pairs = thing
    if not are_pairs_of_things(m, pairs) or not go_on(pairs):
        return False
    return all([least_things(thing, a, b) and greatest_things(thing, a, b) for a in range(m) for b in range(a)])


def check_order(order):
    """Raise BadOrder with a value that is no small order."""
    if not is_order(order):
        raise BadOrder(order)


def is_map_into(n, order, thing):
    """Whether any value is a map into what is known to be a small order."""
    if not are_numbers(thing) or len(thing) != len(all_rows(n)):
        return False
    return all([0 <= a < order[0] for a in thing])


def is_map(n, order, thing):
    """Whether any value is a map for n and a small order."""
    check_order(order)
    return is_map_into(n, order, thing)


def check_order_and_map(n, order, places):
    """Raise BadOrder with a value that is no small order, then BadMap with one that is no map."""
    if not is_map(n, order, places):
        raise BadMap(places)


def things_of_rows(n, places):
    """The dict that gives each row its thing."""
    return {row: thing for row, thing in zip(all_rows(n), places)}


def do_part(n, order, things, told):
    """Whether a word and two rows show that a map does not keep both."""
    word, one, other = told
    if word == "above":
        return [things[least_above(n, one, other)]] != least_things(order, things[one], things[other])
    return [things[greatest_below(n, one, other)]] != greatest_things(order, things[one], things[other])


def first_part(n, order, things):
    """A word and two rows that show that a map does not keep both, or None if there are none."""
    for one in things:
        for other in things:
            for word in WORDS:
                # Both words tell of two rows the same, whichever of them stands first.
                if one < other and do_part(n, order, things, (word, one, other)):
                    return (word, one, other)
    return None


def rule_of_map(n, things):
    """The rule by which those rows are one that go to one thing, for a map that keeps both."""
    found = []
    for arc in all_arcs(n):
        row = single_row(n, arc)
        # An arc counts if the exchange at the only fall of its single row leads to another thing.
        if things[row] != things[exchanged(n, row, row.index(arc[1]))]:
            found.append(arc)
    return tuple(found)


def judge_map(n, order, places):
    """A certificate of whether a map keeps both."""
    check_order_and_map(n, order, places)
    things = things_of_rows(n, places)
    part = first_part(n, order, things)
    if part:
        return ("parts",) + part
    return ("keeps", rule_of_map(n, things))


def keeps_holds(n, order, things, rule):
    """Whether a map keeps both, and any value is the rule by which rows with one thing are one."""
    if not is_rule(n, rule) or rule != rule_of_map(n, things):
        return False
    return first_part(n, order, things) is None


def parts_holds(n, order, things, told):
    """Whether any three values are a word and two rows that show that a map does not keep both."""
    word, one, other = told
    if not isinstance(word, str) or word not in WORDS or not is_row(n, one) or not is_row(n, other):
        return False
    return do_part(n, order, things, told)


def map_holds(n, order, places, thing):
    """Whether any value is a certificate for a map."""
    check_order_and_map(n, order, places)
    things = things_of_rows(n, places)
    if is_certificate(thing, "keeps", 2):
        return keeps_holds(n, order, things, thing[1])
    return is_certificate(thing, "parts", 4) and parts_holds(n, order, things, thing[1:])


def class_order(n, rule):
    """The small order of the classes of a rule."""
    rows = list(enumerate(classes(n, rule)))
    pairs = [(i, k) for i, low in rows for k, high in rows if i != k and is_below(n, low, high)]
    return (len(rows), tuple(pairs))


def class_map(n, rule):
    """The map that takes each row to its class."""
    firsts = classes(n, rule)
    return tuple([firsts.index(first_in_class(n, rule, row)) for row in all_rows(n)])

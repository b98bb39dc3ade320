"""Values of any kind, and checks that tell True from 1 and lists from tuples."""

import itertools

from keptarcs.yards import Yard


class Own:
    """Stands for the objects that may be among any values."""


def nested(depth):
    return (nested(depth - 1),) if depth else ()


def used_yard(n):
    """A yard with deeds that can be undone, and with some that can be done again."""
    yard = Yard(n)
    yard.blind((1, n, ()))
    yard.exchange(0)
    yard.up()
    yard.undo()
    return yard


# The yards among any values, which nothing that takes them as such may change.
YARDS = (Yard(1), Yard(3), used_yard(3), used_yard(2))


def kept_by(yard):
    return yard.n, yard.rule(), yard.row(), yard.undoable(), yard.redoable()


KEPT = [kept_by(yard) for yard in YARDS]


def check_yards(test):
    """The yards among any values are as they were."""
    test.assertEqual([kept_by(yard) for yard in YARDS], KEPT)


ANY = (
    None, True, False, 0, 1, 2, 3, -1, 10 ** 40 - 1, "", "1", "row", "\n", "~" * 800,
    (), [], {}, (0,), (1,), [1], (True,), (None,), ((),), ([],), ({},), ("",), {1: 2}, {"a": (1,)},
    (1, 2), [1, 2], (2, 1), (1, "2"), (1, [2]), (1, (2,)), (1, {}), (0, 1), (1, 10 ** 39),
    (1, 2, 3, 4, 5), (1, 1, 1), (3, 2, 0), (1, 2, 4), (1, 2, ()), [1, 2, ()], (1, 3, (2, 2)),
    ("below",), ["below"], ("apart",), ("lot",), ("makes",), ("pair", 1, 2), ("cross", 2, 3),
    ("rule",), ("lacks", 1, 2), ("counts", ()), ("counts", 1), ("blind", 0, 0, (0,)), ("blind", 0, 0, 0),
    ("first",), ("fall", 0), ("fall", True), ("ways", ()), ("ways", (0,)), ("ways", [0]), ("lots", (), ()),
    ("lots", 1, 2), ("below", (1, 2), (2, 1)), ("below", 1, 2), (((1, 2), (2, 1)),), (((1, 2), [2, 1]),),
    ("order", 0), ("order", -1), ("ends", 1, 2), ("word",) * 5, ("below", ()), ("lot", 1),
    nested(8), [[[[[[[[]]]]]]]], (1,) * 1999, tuple(range(1, 2000)), [None] * 1999,
    Own(), (Own(),), [Own(), Own()], (1, 2, Own()), ("pair", Own(), 2),
    *YARDS, (YARDS[1],), (YARDS[2], YARDS[2]), (1, YARDS[3]), (1, 2, YARDS[1]), {"yard": [YARDS[2]]},
    ("rule", YARDS[1]), ("ways", YARDS[1]), ("lots", YARDS[1], ()), ("word", YARDS[0]), ("keeps", YARDS[2]),
)


def same(one, other):
    """Whether two values are equal and of the same kinds throughout."""
    if type(one) is not type(other):
        return False
    if isinstance(one, (tuple, list)):
        return len(one) == len(other) and all(same(a, b) for a, b in zip(one, other))
    return one == other


def is_among(thing, things):
    return any(same(thing, other) for other in things)


def instead_of(part):
    """Other values in the place of a part that is no tuple."""
    found = [None, True, False, -1, "", (), [], {}, Own(), 10 ** 39, YARDS[2]]
    if isinstance(part, int):
        found += [part + 1, part - 1, str(part), (part,), [part]]
    if isinstance(part, str):
        found += [part + "s", part.upper(), part[:-1], (part,), [part]]
    return found


def spoiled(value):
    """Many values that come of a value if parts are replaced, left out, exchanged or repeated."""
    if not isinstance(value, tuple):
        return instead_of(value)
    found = [list(value), value[::-1], value + value, value + (None,), value + ((),), (value,), [value], {}]
    for i, part in enumerate(value):
        ahead, behind = value[:i], value[i + 1:]
        found += [ahead + behind, ahead + (part, part) + behind]
        found += [ahead + (other,) + behind for other in spoiled(part)]
        found += [ahead + (list(part),) + behind] if isinstance(part, tuple) else []
    return found


def check_told(test, holds, args, is_right, things):
    """A function tells of each value whether it is right, and changes nothing."""
    for thing in things:
        kept = repr((args, thing))
        told = holds(*args, thing)
        test.assertIs(told, is_right(thing), (args, thing))
        test.assertIs(holds(*args, thing=thing), told)
        test.assertEqual(repr((args, thing)), kept)
    check_yards(test)


def check_holds(test, holds, args, right, others):
    """A function tells True for just the right ones of right and other values, and their spoilings."""
    things = list(itertools.chain(ANY, right, others))
    things += [other for thing in right for other in spoiled(thing)]
    check_told(test, holds, args, lambda thing: is_among(thing, right), things)


def check_error(test, wanted, thing, call):
    """A call raises just this error with just this value."""
    with test.assertRaises(wanted) as caught:
        call()
    test.assertIs(type(caught.exception), wanted)
    test.assertIs(caught.exception.thing, thing)


def named_backward(good):
    """The arguments as keywords, the last one first."""
    return dict(reversed(list(good.items())))


def check_wrong(test, function, n, good, wrong):
    """As check_all_wrong, for a function that n is passed to ahead of good."""
    check_all_wrong(test, function, {"n": n, **good}, wrong)


def check_all_wrong(test, function, good, wrong):
    """Each wrong value gives its error; of several wrong ones the first one does.

    good: a dict of right arguments in their order; wrong: for some of their names a pair of an
    error and a list of wrong values.
    """
    names = [name for name in good if name in wrong]
    for at, name in enumerate(names):
        error, values = wrong[name]
        for thing in values:
            alone = {**good, name: thing}
            kept = repr(alone)
            check_error(test, error, thing, lambda: function(*alone.values()))
            check_error(test, error, thing, lambda: function(**named_backward(alone)))
            test.assertEqual(repr(alone), kept)
        for thing, late in itertools.product(values[:9], range(9)):
            several = {**good, name: thing}
            for other in names[at + 1:]:
                several[other] = wrong[other][1][late % len(wrong[other][1])]
            check_error(test, error, thing, lambda: function(*several.values()))
            check_error(test, error, thing, lambda: function(**named_backward(several)))
    check_yards(test)

"""Any values, yards among them, as arguments of all functions of the interface."""

import unittest

from keptarcs import bodies, machines, maps, marks, trees
from keptarcs.errors import ArcError
from tests.interface import ERRORS, GOOD, error_of, functions
from tests.values import ANY, KEPT, YARDS, check_error, check_yards, kept_by, named_backward

USED = YARDS[2]
WITH_YARDS = [
    *YARDS, (USED,), (USED, USED), [USED], {"yard": USED}, (1, USED), (1, 2, USED), (USED, 2, ()), ((1, 2, USED),),
    ((USED, (2, 1, 3)),), (((1, 2, 3), USED),), (USED, (), ()), (2, USED, (3, (), ())), ("ahead", USED, ""),
    ((USED,), (0,), (True,)), ((0,), (0,), (USED,)), (2, ((0, USED),)), (USED, ()),
]


def with_a_yard(value):
    """The values that come of a value if one part is a yard."""
    found = [USED]
    if isinstance(value, tuple):
        for i, part in enumerate(value):
            found += [value[:i] + (other,) + value[i + 1:] for other in with_a_yard(part)]
        found += [value + (USED,), (USED,) + value]
    return found


def pairs_of_functions():
    """The functions that judge, those that tell whether what they tell holds, and right arguments."""
    known = {function.__name__: (function, good) for _, function, good in functions()}
    found = []
    for name, (judge, good) in known.items():
        if name.startswith("judge_"):
            stem = name.removeprefix("judge_")
            holds, more = known.get(f"{stem}_holds") or known[f"{stem}_hold"]
            found.append((judge, holds, {part: more[part] for part in good}))
    return found


class ErrorsTest(unittest.TestCase):
    def test_yards_as_arguments(self):
        for file, function, good in functions():
            for name in good:
                error = error_of(file, name) if file != "yards" else None
                for thing in [*WITH_YARDS, *with_a_yard(good[name])] if error else []:
                    wrong = {**good, name: thing}
                    check_error(self, error, thing, lambda: function(*wrong.values()))
                    check_error(self, error, thing, lambda: function(**named_backward(wrong)))
        check_yards(self)

    def test_the_first_wrong_argument_is_told(self):
        for file, function, good in functions():
            names = [name for name in good if file != "yards" and error_of(file, name)]
            for at, name in enumerate(names):
                for thing in (USED, None, [], ("rule", 1), {1: USED}, 10 ** 39, -1):
                    wrong = {**good, **dict.fromkeys(names[at + 1:], USED), name: thing}
                    check_error(self, error_of(file, name), thing, lambda: function(*wrong.values()))
                    check_error(self, error_of(file, name), thing, lambda: function(**named_backward(wrong)))
        check_yards(self)

    def test_any_values_give_an_answer_or_their_error(self):
        for file, function, good in functions():
            for name in [name for name in good if file != "yards" and name not in ("n", "thing")]:
                for thing in ANY:
                    told = {**good, name: thing}
                    try:
                        found = function(**told)
                    except ArcError as error:
                        # A right value may make a later one wrong, as a rule makes lots of arcs that are blind by it.
                        wanted = [other for other in told if told[other] is error.thing]
                        self.assertIn(type(error), [error_of(file, other) for other in wanted])
                    else:
                        self.assertEqual(function(*told.values()), found)
        check_yards(self)

    def test_all_files_are_looked_at(self):
        self.assertEqual(set(ERRORS) | {"yards"}, set(GOOD))
        self.assertEqual({file for file, _, _ in functions()}, set(GOOD))


class ThingsTest(unittest.TestCase):
    def test_yards_are_no_rows_and_no_certificates(self):
        for _, function, good in functions():
            if "thing" in good:
                for thing in [*WITH_YARDS, *with_a_yard(good["thing"])]:
                    self.assertIs(function(**{**good, "thing": thing}), False, (function, thing))
        check_yards(self)

    def test_any_values_raise_nothing(self):
        for _, function, good in functions():
            if "thing" in good:
                for thing in ANY:
                    self.assertIn(function(**{**good, "thing": thing}), (True, False))
        check_yards(self)

    def test_right_certificates_with_a_yard_in_them(self):
        pairs = pairs_of_functions()
        self.assertEqual(len(pairs), 17)
        for judge, holds, good in pairs:
            right = judge(**good)
            self.assertIs(holds(**good, thing=right), True, (holds, right))
            for thing in with_a_yard(right):
                self.assertIs(holds(**good, thing=thing), False, (holds, thing))
        check_yards(self)

    def test_certificates_of_other_kinds_with_a_yard_in_them(self):
        easy, two = GOOD["maps"]["rule"], ((1, 2, ()),)
        for holds, args, right in (
            (machines.machine_holds, (((1, 0), (1, 0), (True, False)),), ("stretch", "AA", "A")),
            (machines.alike_holds, (GOOD["machines"]["one"],) * 2, ("alike",)),
            (machines.finer_holds, (GOOD["machines"]["other"], GOOD["machines"]["one"]), ("finer",)),
            (bodies.point_holds, (2, two, (1, -1)), ("corner", (2, 1))),
            (bodies.point_holds, (2, two, (1, 0)), ("outside", (1, 2))),
            (bodies.point_holds, (3, (*easy[:2], (1, 3, (2,)), easy[2]), (1, 0, -1)), ("within",)),
            (maps.map_holds, (2, GOOD["maps"]["order"], (1, 0)), ("parts", "above", (1, 2), (2, 1))),
            (marks.marked_holds, (3, easy), ("marks", ("", "ahead", "both"))),
            (trees.twins_hold, (2, (1, (), (2, (), ())), (1, (), (2, (), ()))), ("apart", 1)),
        ):
            self.assertIs(holds(*args, right), True, (holds, right))
            for thing in with_a_yard(right):
                self.assertIs(holds(*args, thing), False, (holds, thing))
        self.assertEqual([kept_by(yard) for yard in YARDS], KEPT)


if __name__ == "__main__":
    unittest.main()

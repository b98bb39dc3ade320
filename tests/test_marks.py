import itertools
import unittest

from keptarcs import marks
from keptarcs.errors import BadMarks, BadRule
from tests import plain
from tests.some_rules import by_marks, drawn_full, drawn_marks, few_wrong_rules, full_rules, is_full
from tests.some_rules import rules_of_all_kinds, wrong_rules
from tests.values import ANY, Own, check_holds, check_told, check_wrong, is_among, same, spoiled

WORDS = ("", "ahead", "behind", "both")


def all_marks(n):
    return list(itertools.product(WORDS, repeat=n))


def blind_by_a_look(n, some):
    """The arcs that are blind by marks, by a look at all arcs and numbers."""
    found = set()
    for (a, b, ahead), p in itertools.product(plain.arcs(n), range(1, n + 1)):
        mark = some[p - 1]
        if a < p < b and p in ahead and mark in ("ahead", "both"):
            found.add((a, b, ahead))
        if a < p < b and p not in ahead and mark in ("behind", "both"):
            found.add((a, b, ahead))
    return found


def certificates(n, rule):
    """All right certificates for a full rule."""
    right = [("marks", some) for some in all_marks(n) if by_marks(n, some) == rule]
    return right or [("long", arc) for arc in plain.least_blind(n, rule) if arc[1] - arc[0] != 2]


def wrong_marks(n):
    good = all_marks(n) if n < 3 else drawn_marks(n, 3, n)
    found = [*ANY, *(other for some in good for other in spoiled(some))]
    found += [("",) * (n + 1), ("",) * (n - 1), ["ahead"] * n, ("Ahead",) * n, ("ahead ",) * n, (None,) * n]
    found += [(True,) * n, (0,) * n, ("none",) * n, (("both",),) * n, "".join(["ahead"] * n), ("both", "behind", "all")]
    right = set(all_marks(n)) if n < 5 else set()
    return [thing for thing in found if not is_marks(n, thing, right)]


def is_marks(n, thing, right):
    if type(thing) is not tuple or any(type(mark) is not str for mark in thing):
        return False
    return thing in right if right else len(thing) == n and all(mark in WORDS for mark in thing)


class MarksTest(unittest.TestCase):
    """[9.1]"""

    def test_is_marks(self):
        for n in range(1, 6):
            for some in all_marks(n):
                self.assertIs(marks.is_marks(n, some), True)
                self.assertIs(marks.is_marks(n + 1, some), False)
                self.assertIs(marks.is_marks(n, list(some)), False)
        for n in range(1, 9):
            for thing in wrong_marks(n):
                self.assertIs(marks.is_marks(n, thing), False, thing)
            for some in drawn_marks(n, 10, n):
                self.assertIs(marks.is_marks(n, thing=some), True)

    def test_blind_arcs_by_a_look_at_all_arcs(self):
        some = [(n, found) for n in range(1, 5) for found in all_marks(n)]
        some += [(n, found) for n in range(5, 9) for found in drawn_marks(n, 40 - 4 * n, 3)]
        some += [(8, (word,) * 8) for word in WORDS]
        for n, found in some:
            rule = marks.rule_of_marks(n, found)
            blind = blind_by_a_look(n, found)
            self.assertTrue(same(rule, tuple(arc for arc in plain.arcs(n) if arc not in blind)), found)
            self.assertTrue(is_full(n, rule))

    def test_they_are_rules(self):
        for n in range(1, 5):
            for some in all_marks(n):
                self.assertIn(marks.rule_of_marks(n, some), plain.rules(n))

    def test_marks_of_the_ends_change_nothing(self):
        for n in range(1, 9):
            (middle,) = drawn_marks(n, 1, 7)
            rule = marks.rule_of_marks(n, middle)
            for low, high in itertools.product(WORDS, repeat=2):
                some = (low, *middle[1:-1], high)[:n] if n > 1 else (low,)
                self.assertEqual(marks.rule_of_marks(n, some), rule)

    def test_known_rules(self):
        for n in range(1, 9):
            everything = tuple(plain.arcs(n))
            self.assertEqual(marks.rule_of_marks(n, ("",) * n), everything)
            self.assertEqual(marks.rule_of_marks(n, ("ahead",) * n), tuple(arc for arc in everything if not arc[2]))
            full = tuple(arc for arc in everything if arc[2] == tuple(range(arc[0] + 1, arc[1])))
            self.assertEqual(marks.rule_of_marks(n, ("behind",) * n), full)
            self.assertEqual(marks.rule_of_marks(n, ("both",) * n), tuple((a, a + 1, ()) for a in range(1, n)))


class TwinRuleTest(unittest.TestCase):
    """[9.4]"""

    def test_arcs_with_none_or_all_numbers_ahead(self):
        for n in range(1, 9):
            expected = [arc for arc in plain.arcs(n) if len(arc[2]) in (0, arc[1] - arc[0] - 1)]
            self.assertTrue(same(marks.twin_rule(n), tuple(expected)))
            self.assertTrue(is_full(n, marks.twin_rule(n)))
        for n in range(1, 5):
            self.assertIn(marks.twin_rule(n), plain.rules(n))


class MarkedTest(unittest.TestCase):
    """[9.1]"""

    def some_full_rules(self):
        found = [(n, rule) for n in range(1, 5) for rule in full_rules(n)]
        return found + [(5, rule) for rule in self.five()]

    def five(self):
        """Full rules of five numbers, by marks and others."""
        found = [rule for rule in rules_of_all_kinds(5) if is_full(5, rule)]
        return found + full_rules(5)[::150] + drawn_full(5, 10, 3) + [by_marks(5, some) for some in all_marks(5)[::30]]

    def test_judge_marked_gives_a_right_certificate(self):
        told = {"marks": 0, "long": 0}
        for n, rule in self.some_full_rules():
            found = marks.judge_marked(n, rule)
            self.assertTrue(is_among(found, certificates(n, rule)), (rule, found))
            self.assertIs(marks.marked_holds(n, rule, found), True)
            told[found[0]] += 1
        self.assertGreater(min(told.values()), 20)

    def test_each_rule_of_marks(self):
        for n in range(1, 6):
            for some in all_marks(n)[::n]:
                rule = by_marks(n, some)
                self.assertEqual(marks.judge_marked(n, rule)[0], "marks")
                self.assertIs(marks.marked_holds(n, rule, ("marks", some)), True)

    def test_just_the_right_ones_of_all_forms(self):
        for n, rule in [(n, rule) for n in range(1, 5) for rule in full_rules(n)]:
            right = certificates(n, rule)
            things = [("marks", some) for some in all_marks(n)[::max(1, n - 1)]]
            for thing in things + [("long", arc) for arc in plain.arcs(n)]:
                self.assertIs(marks.marked_holds(n, rule, thing), thing in right, (rule, thing))

    def test_any_values(self):
        for n in (1, 2, 3):
            for rule in full_rules(n):
                check_holds(self, marks.marked_holds, (n, rule), certificates(n, rule), [])

    def test_any_values_for_five_numbers(self):
        for rule in self.five()[::4]:
            right = certificates(5, rule)
            things = [*ANY, *spoiled(right[0]), *spoiled(right[-1]), *right, ("marks", ("",) * 5), ("marks", ())]
            things += [("marks", some) for some in all_marks(5)[::20]] + [("long", arc) for arc in plain.arcs(5)]
            check_told(self, marks.marked_holds, (5, rule), lambda thing: is_among(thing, right), things)


class WrongInputsTest(unittest.TestCase):
    def test_marks(self):
        for n in range(1, 9):
            wrong = {"marks": (BadMarks, wrong_marks(n))}
            check_wrong(self, marks.rule_of_marks, n, {"marks": ("both",) * n}, wrong)

    def test_rules(self):
        for n in range(1, 6):
            values = [rule for rule in rules_of_all_kinds(n) if not is_full(n, rule)]
            values += wrong_rules(n) if n < 4 else few_wrong_rules(n)
            wrong = {"rule": (BadRule, values)}
            check_wrong(self, marks.judge_marked, n, {"rule": tuple(plain.arcs(n))}, wrong)
            for thing in (("marks", ("",) * n), ("long", (1, 3, ())), None, [], Own()):
                check_wrong(self, marks.marked_holds, n, {"rule": tuple(plain.arcs(n)), "thing": thing}, wrong)


if __name__ == "__main__":
    unittest.main()

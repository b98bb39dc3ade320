import functools
import itertools
import math
import unittest

from keptarcs import machines
from keptarcs.classes import many_classes
from keptarcs.errors import BadArc, BadMachine, BadWord
from tests import plain
from tests.some_machines import ALL, LATE, NONE, STEPS, TREES, TWINS, is_machine, is_rule, machines_of, others, read_by
from tests.some_machines import small_rules, some_rules, some_shunned, stretches, wide_rules, words, wrong_machines
from tests.test_arcs import wrong_arcs
from tests.values import ANY, YARDS, Own, check_all_wrong, check_error, check_holds, check_told, check_wrong
from tests.values import is_among, same, spoiled

# Words of the longest kind that is passed to reads.
LONG = ["A" * 20, "B" * 20, "AB" * 10, "ABBA" * 5, "AAB" * 6 + "BA"]
TOLD = [("rule",), ("alike",), ("finer",), ("word", ""), ("word", "A"), ("stretch", "A", ""), ("stretch", "", "")]
TOLD += [("word", 0), ("word", ["A"]), ("word", "a"), ("word", YARDS[0]), ("word",), ("word", "A", "A"), ("word", None)]


def word_of(arc):
    """The turn word of an arc, letter by letter."""
    a, b, ahead = arc
    return "".join("A" if p in ahead else "B" for p in range(a + 1, b))


def arcs_read(n, machine):
    """The arcs of n whose turn words a machine reads."""
    return tuple(arc for arc in plain.arcs(n) if word_of(arc) in read_by(machine, 6))


@functools.cache
def lots(n):
    return plain.lots(n)


def wrong_words():
    found = [*ANY, "a", "AC", "A B", " ", "AB\n", "1", b"AB", ("A",), ["A"], ("A", "B"), None, 0, True, "ABABABABAb"]
    return [thing for thing in found if type(thing) is not str or set(thing) - set("AB")]


def wrong_tuples_of_words():
    found = [*ANY, "AB", "A", ["A"], (), ("",), ("A", ""), ("ABABA",), ("A",) * 5, ("A", "BBBBB"), ("A", "C")]
    found += [("A", None), ("A", 1), ("A", ("B",)), (("A",),), ("a",), ("A", True), {"A": "B"}, ("A", YARDS[0])]

    def is_right(thing):
        if type(thing) is not tuple or len(thing) not in range(1, 5):
            return False
        return all(type(word) is str and word in words(4)[1:] for word in thing)
    return [thing for thing in found + spoiled(("AB", "BBB")) if not is_right(thing)]


class WordsTest(unittest.TestCase):
    """[10.1]"""

    def test_turn_word(self):
        for n in range(1, 7):
            for arc in plain.arcs(n):
                self.assertTrue(same(machines.turn_word(n, arc), word_of(arc)))
        self.assertEqual(machines.turn_word(40, (1, 40, tuple(range(2, 40)))), "A" * 38)
        self.assertEqual(machines.turn_word(40, (3, 7, (5,))), "BAB")

    def test_the_words_of_arcs_within_are_the_stretches(self):
        for n in range(1, 6):
            for arc in plain.arcs(n):
                found = {machines.turn_word(n, other) for other in plain.within(n, arc)}
                self.assertEqual(found, stretches(word_of(arc)))


class MachinesTest(unittest.TestCase):
    """[10.2]"""

    def test_is_machine(self):
        for machine in [*small_rules(), *others(), *wide_rules(), *machines_of(2)]:
            self.assertIs(machines.is_machine(machine), True)
        for thing in wrong_machines():
            self.assertIs(machines.is_machine(thing), False, thing)
        for machine in (ALL, TREES, TWINS):
            for thing in spoiled(machine):
                self.assertIs(machines.is_machine(thing), is_machine(thing), thing)

    def test_one_state_and_sixteen(self):
        for many in range(1, 20):
            parts = (tuple(range(many)), (0,) * many, (True,) * many)
            self.assertIs(machines.is_machine(parts), many <= 16)

    def test_reads(self):
        for machine in [*some_rules(), *others()[::3]]:
            for word in words(6):
                self.assertIs(machines.reads(machine, word), word in read_by(machine, 6))
        for word in ["", *LONG]:
            self.assertIs(machines.reads(ALL, word), True)
            self.assertIs(machines.reads(NONE, word), False)
            self.assertIs(machines.reads(TREES, word), "A" not in word)
            self.assertIs(machines.reads(LATE, word), "B" not in word)
            self.assertIs(machines.reads(STEPS, word), word == "")
            self.assertIs(machines.reads(TWINS, word), "AB" not in word and "BA" not in word)

    def test_whether_it_is_a_rule_by_all_words(self):
        told = {True: 0, False: 0}
        for machine in [*machines_of(1), *machines_of(2), *small_rules(), *wide_rules(), *others()]:
            expected = is_rule(machine, 8)
            self.assertIs(machines.judge_machine(machine) == ("rule",), expected, machine)
            self.assertIs(machines.machine_holds(machine, ("rule",)), expected)
            told[expected] += 1
        self.assertGreater(min(told.values()), 40)

    def check_judged(self, machine):
        found = machines.judge_machine(machine)
        self.assertIs(machines.machine_holds(machine, found), True)
        if found != ("rule",):
            word, other = found[1:]
            self.assertEqual(found[0], "stretch")
            self.assertIn(other, word)
            known = read_by(machine, 9)
            self.assertTrue(word in known and other not in known, (machine, found))

    def test_judge_machine_gives_a_right_certificate(self):
        for machine in [*machines_of(1), *machines_of(2), *list(machines_of(3))[::17], *some_rules(), *others()]:
            self.check_judged(machine)

    def test_long_words(self):
        # All words of up to 14 letters are read with all their stretches, but not so A * 15.
        machine = (tuple(range(1, 16)) + (15,), (15,) * 16, (True,) * 14 + (False, True))
        found = machines.judge_machine(machine)
        self.assertEqual(found[0], "stretch")
        self.assertIn(found[2], found[1])
        self.assertIs(machines.reads(machine, found[1]), True)
        self.assertIs(machines.reads(machine, found[2]), False)
        self.assertIs(machines.machine_holds(machine, ("stretch", "A" * 600, "A" * 14)), True)
        self.assertIs(machines.machine_holds(machine, ("stretch", "A" * 600, "A" * 13)), False)

    def test_just_the_right_ones_of_all_forms(self):
        pairs = list(itertools.product(words(3), repeat=2))
        for machine in [ALL, NONE, TREES, *small_rules()[::4], *others()[::2]]:
            known = read_by(machine, 3)
            for word, other in pairs:
                expected = word in known and other not in known and other in word
                self.assertIs(machines.machine_holds(machine, ("stretch", word, other)), expected)

    def test_any_values(self):
        for machine in [ALL, NONE, TREES, TWINS, wide_rules()[0], *others()[::12]]:
            known = read_by(machine, 4)
            right = [("stretch", word, other) for word in known for other in stretches(word) if other not in known]
            right = right[:6] or [("rule",)] * is_rule(machine, 8)
            things = [*ANY, *TOLD, *right, *(other for thing in right for other in spoiled(thing))]

            def is_right(thing):
                if not is_rule(machine, 8) and type(thing) is tuple and len(thing) == 3 and same(thing[0], "stretch"):
                    texts = all(type(part) is str and not set(part) - set("AB") for part in thing[1:])
                    return texts and thing[1] in read_by(machine, 10) and thing[2] in stretches(thing[1]) - known
                return is_among(thing, right)
            check_told(self, machines.machine_holds, (machine,), is_right, things)


class RulesTest(unittest.TestCase):
    """[10.2]"""

    def test_rule_for(self):
        for machine in some_rules():
            for n in range(1, 6):
                found = machines.rule_for(n, machine)
                self.assertTrue(same(found, arcs_read(n, machine)))
                self.assertTrue(plain.is_rule(n, found))

    def test_known_rules(self):
        for n in range(1, 6):
            everything = tuple(plain.arcs(n))
            self.assertEqual(machines.rule_for(n, ALL), everything)
            self.assertEqual(machines.rule_for(n, NONE), ())
            self.assertEqual(machines.rule_for(n, STEPS), tuple((a, a + 1, ()) for a in range(1, n)))
            self.assertEqual(machines.rule_for(n, TREES), tuple(arc for arc in everything if not arc[2]))


class AlikeAndFinerTest(unittest.TestCase):
    """[10.3]"""

    def pairs(self):
        some = some_rules()
        return list(itertools.product(some[:6], some)) + list(itertools.product(some[::5], some[::3]))

    def certificates(self, one, other, alike):
        """All right certificates, by the words of up to six letters."""
        first, second = read_by(one, 6), read_by(other, 6)
        parting = (first ^ second) if alike else (second - first)
        least = min((len(word) for word in parting), default=0)
        return [("word", word) for word in parting if len(word) == least] or [("alike",) if alike else ("finer",)]

    def test_judged(self):
        told = {"alike": 0, "finer": 0, "word": 0}
        for one, other in self.pairs():
            for alike, judge, holds in (
                (True, machines.judge_alike, machines.alike_holds), (False, machines.judge_finer, machines.finer_holds),
            ):
                right = self.certificates(one, other, alike)
                found = judge(one, other)
                self.assertTrue(is_among(found, right), (one, other, found))
                told[found[0]] += 1
                for thing in [*right, *TOLD, *(("word", word) for word in words(4))]:
                    self.assertIs(holds(one, other, thing), is_among(thing, right), (one, other, thing))
        self.assertGreater(min(told.values()), 20)

    def test_rules_part_first_at_two_more_than_the_length_of_a_shortest_word(self):
        for one, other in self.pairs()[::3]:
            found = machines.judge_alike(one, other)
            rules = [n for n in range(1, 6) if machines.rule_for(n, one) != machines.rule_for(n, other)]
            if found[0] == "word" and len(found[1]) < 4:
                self.assertEqual(rules[0], len(found[1]) + 2)
            else:
                self.assertEqual(rules, [])

    def test_words_longer_than_all_machines_have_states(self):
        # The words A .. A of up to 14 letters, and those of up to 13.
        longest = [
            (tuple(range(1, many)) + (many - 1,), (many - 1,) * many, (True,) * (many - 1) + (False,))
            for many in (16, 15)
        ]
        for one, other in (longest, longest[::-1]):
            self.assertEqual(machines.judge_alike(one, other), ("word", "A" * 14))
            self.assertIs(machines.alike_holds(one, other, ("word", "A" * 14)), True)
            self.assertIs(machines.alike_holds(one, other, ("word", "A" * 13)), False)
            self.assertIs(machines.alike_holds(one, other, ("word", "A" * 15)), False)
        self.assertEqual(machines.judge_finer(*longest), ("finer",))
        self.assertEqual(machines.judge_finer(*longest[::-1]), ("word", "A" * 14))
        self.assertIs(machines.finer_holds(*longest[::-1], ("word", "A" * 14)), True)

    def test_any_values(self):
        for one, other in ((ALL, ALL), (ALL, NONE), (ALL, TREES), (TREES, ALL), (TREES, LATE), (TWINS, LATE)):
            right = self.certificates(one, other, True)
            check_holds(self, machines.alike_holds, (one, other), right, TOLD)
            right = self.certificates(one, other, False)
            check_holds(self, machines.finer_holds, (one, other), right, TOLD)


class ShunningTest(unittest.TestCase):
    """[10.4]"""

    def test_words_without_such_a_stretch(self):
        for shunned in some_shunned():
            machine = machines.shunning(shunned)
            self.assertTrue(is_machine(machine), shunned)
            expected = {word for word in words(9) if not any(stretch in word for stretch in shunned)}
            self.assertEqual(read_by(machine, 9), expected, shunned)
            self.assertEqual(machines.judge_machine(machine), ("rule",))

    def test_two_letters(self):
        for some in itertools.product(words(2)[1:], repeat=2):
            known = read_by(machines.shunning(some), 8)
            self.assertEqual(known, {word for word in words(8) if not any(stretch in word for stretch in some)})

    def test_the_longest_ones(self):
        self.assertEqual(machines.judge_alike(machines.shunning(("A",)), TREES), ("alike",))
        self.assertEqual(machines.judge_alike(machines.shunning(("AB", "BA")), TWINS), ("alike",))
        self.assertEqual(machines.judge_alike(machines.shunning(("A", "B")), STEPS), ("alike",))
        for some in itertools.combinations(words(4)[15:], 4):
            self.assertTrue(is_machine(machines.shunning(some)))


class ManyClassesTest(unittest.TestCase):
    """[10.5]"""

    def test_by_the_lots_of_arcs(self):
        for machine in some_rules():
            for n in range(1, 6):
                rule = set(arcs_read(n, machine))
                expected = sum(set(lot) <= rule for lot in lots(n))
                self.assertTrue(same(machines.many_classes(n, machine), expected), (n, machine))

    def test_by_the_classes(self):
        for machine in some_rules()[::3]:
            for n in range(1, 6):
                self.assertEqual(machines.many_classes(n, machine), many_classes(n, machines.rule_for(n, machine)))
            rule = tuple(arc for arc in plain.arcs(6) if word_of(arc) in read_by(machine, 6))
            self.assertEqual(machines.many_classes(6, machine), len(set(plain.parts(6, rule).values())))

    def test_known_numbers_up_to_twelve(self):
        for n in range(1, 13):
            catalan = math.comb(2 * n, n) // (n + 1)
            for machine in (ALL, ((1, 0), (1, 1), (True, True)), ((0, 0), (1, 1), (True, True))):
                self.assertEqual(machines.many_classes(n, machine), math.factorial(n))
            for machine in (TREES, LATE):
                self.assertEqual(machines.many_classes(n, machine), catalan)
            self.assertEqual(machines.many_classes(n, STEPS), 2 ** (n - 1))
            self.assertEqual(machines.many_classes(n, NONE), 1)

    def test_known_numbers_up_to_eight(self):
        everything = wide_rules()[0]
        for n, twins in zip(range(1, 9), (1, 2, 6, 22, 92, 422, 2074, 10754)):
            self.assertEqual(machines.many_classes(n, everything), math.factorial(n))
            self.assertEqual(machines.many_classes(n, TWINS), twins)


class WrongInputsTest(unittest.TestCase):
    def not_rules(self):
        return [*wrong_machines(), *others()]

    def test_arcs(self):
        for n in (1, 3, 6):
            check_wrong(self, machines.turn_word, n, {"arc": (1, n, ())}, {"arc": (BadArc, wrong_arcs(n))})

    def test_machines_and_words(self):
        wrong = {"machine": (BadMachine, wrong_machines()), "word": (BadWord, wrong_words())}
        check_all_wrong(self, machines.reads, {"machine": TREES, "word": "AB"}, wrong)
        check_all_wrong(self, machines.judge_machine, {"machine": TREES}, wrong)
        for thing in (("rule",), None, [], Own()):
            check_all_wrong(self, machines.machine_holds, {"machine": TREES, "thing": thing}, wrong)

    def test_rules_for_all_n(self):
        wrong = {"machine": (BadMachine, self.not_rules())}
        for n in (1, 3, 5):
            for function in (machines.rule_for, machines.many_classes):
                check_wrong(self, function, n, {"machine": TREES}, wrong)

    def test_two_machines(self):
        values = self.not_rules()
        wrong = {"one": (BadMachine, values), "other": (BadMachine, values[::-1])}
        good = {"one": TREES, "other": ALL}
        for function in (machines.judge_alike, machines.judge_finer):
            check_all_wrong(self, function, good, wrong)
        for function in (machines.alike_holds, machines.finer_holds):
            for thing in (("alike",), ("finer",), None, {}):
                check_all_wrong(self, function, {**good, "thing": thing}, wrong)

    def test_machines_that_are_no_rules_are_read(self):
        for machine in others():
            self.assertIs(machines.reads(machine, ""), machine[2][0])
            check_error(self, BadMachine, machine, lambda: machines.rule_for(2, machine))

    def test_words_to_shun(self):
        check_all_wrong(self, machines.shunning, {"words": ("A",)}, {"words": (BadWord, wrong_tuples_of_words())})


if __name__ == "__main__":
    unittest.main()

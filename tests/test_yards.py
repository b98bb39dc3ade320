import functools
import itertools
import random
import unittest

from keptarcs import yards
from keptarcs.errors import BadArc, BadNumber, BadText, NothingToRedo, NothingToUndo
from keptarcs.yards import Yard, read_yard
from tests import plain
from tests.some_rules import drawn, drawn_rows, rules_of_all_kinds
from tests.test_arcs import wrong_arcs
from tests.test_rows import wrong_numbers
from tests.values import ANY, YARDS, Own, check_yards, kept_by, same

DEEDS = ("blind", "count", "exchange", "down", "up")


class Account:
    """A plain account of what a yard keeps: all states ahead of deeds, and all ahead of undone ones."""

    def __init__(self, n):
        self.n = n
        self.state = (tuple(plain.arcs(n)), tuple(range(1, n + 1)))
        self.ahead, self.behind = [], []

    def after(self, name, *told):
        """The state behind a deed, or None if it raises an error."""
        rule, row = self.state
        if name in ("blind", "count"):
            (arc,) = told
            if not plain.is_arc(self.n, arc):
                return None
            if name == "blind":
                return tuple(other for other in rule if not plain.lies_within(arc, other)), row
            return tuple(sorted({*rule, *plain.within(self.n, arc)})), row
        if name == "exchange":
            (i,) = told
            return (rule, plain.exchanged(row, i)) if type(i) is int and 0 <= i < self.n - 1 else None
        rows = plain.one_class(rule, row)
        return rule, plain.bottom(rows) if name == "down" else plain.top(rows)

    def call(self, name, *told):
        """Whether a call raises no error."""
        if name in DEEDS:
            state = self.after(name, *told)
            if state is None:
                return False
            self.ahead.append(self.state)
            self.behind, self.state = [], state
            return True
        here, there = (self.ahead, self.behind) if name == "undo" else (self.behind, self.ahead)
        if not here:
            return False
        there.append(self.state)
        self.state = here.pop()
        return True


def text_of(n, rule, row):
    lines = [f"yard {n}", " ".join(["row", *map(str, row)])]
    lines += [" ".join(["arc", str(a), str(b), *map(str, ahead)]) for a, b, ahead in plain.least_blind(n, rule)]
    return "\n".join(lines)


def drawn_call(draw, n):
    """The name of a method and its arguments, right ones and wrong ones."""
    name = draw.choice((*DEEDS, *DEEDS, "undo", "undo", "redo", "redo"))
    if name in ("blind", "count"):
        right = draw.choice(plain.arcs(n)) if n > 1 else (1, 2, ())
        return name, draw.choice((right,) * 6 + ((1, n + 1, ()), [1, 2, ()], None, YARDS[1]))
    if name == "exchange":
        return name, draw.choice((*range(n - 1), *range(n - 1), -1, n - 1, True, "0"))
    return (name,)


def raised_by(call):
    try:
        call()
    except Exception as error:
        return error
    return None


class YardsTest(unittest.TestCase):
    """[13.1], [13.2]"""

    def check_state(self, yard, account):
        rule, row = account.state
        self.assertTrue(same(yard.n, account.n))
        self.assertTrue(same(yard.rule(), rule))
        self.assertTrue(same(yard.row(), row))
        self.assertTrue(same(yard.undoable(), len(account.ahead)))
        self.assertTrue(same(yard.redoable(), len(account.behind)))

    def check_reading(self, yard, account):
        rule, row = account.state
        rows = plain.one_class(rule, row)
        self.assertTrue(same(yard.first(), plain.bottom(rows)))
        self.assertTrue(same(yard.last(), plain.top(rows)))
        self.assertTrue(same(yard.text(), text_of(yard.n, rule, row)))
        self.assertTrue(yard.is_same(yard.copied()))
        self.check_state(yard, account)

    def check_call(self, yard, account, call):
        name, *told = call
        right = account.call(*call)
        if right:
            self.assertIsNone(getattr(yard, name)(*told), call)
            return
        error = raised_by(lambda: getattr(yard, name)(*told))
        wanted = {
            "blind": BadArc, "count": BadArc, "exchange": BadNumber, "undo": NothingToUndo, "redo": NothingToRedo,
        }
        self.assertIs(type(error), wanted[name], call)
        self.assertEqual(list(vars(error).values()), told)

    def test_a_new_yard(self):
        for n in range(1, 8):
            for yard in (Yard(n), Yard(n=n)):
                self.check_state(yard, Account(n))
                self.check_reading(yard, Account(n))

    def test_any_calls(self):
        for n, many, seed in [(n, 60, seed) for n in range(1, 5) for seed in range(12)] + [(5, 40, 1), (6, 30, 2)]:
            draw = random.Random(100 * n + seed)
            yard, account = Yard(n), Account(n)
            for _ in range(many):
                self.check_call(yard, account, drawn_call(draw, n))
                self.check_state(yard, account)
                if draw.random() < 0.3:
                    self.check_reading(yard, account)
        check_yards(self)

    def test_seven_numbers(self):
        yard, account = Yard(7), Account(7)
        draw = random.Random(7)
        for arc in drawn(7, 6, 7):
            for call in (("blind", arc), *[("exchange", draw.randrange(6)) for _ in range(5)], ("undo",), ("redo",)):
                self.check_call(yard, account, call)
                self.check_state(yard, account)
            self.check_reading(yard, account)
        for call in (("up",), ("count", (1, 7, (3, 5))), ("down",), ("undo",), ("undo",), ("redo",)):
            self.check_call(yard, account, call)
            self.check_reading(yard, account)

    def test_sixty_deeds_undone_and_done_again(self):
        for n in (1, 4, 7):
            yard, account = Yard(n), Account(n)
            calls = [("down",), ("up",)] if n == 1 else [
                ("blind", (1, 3, (2,))), ("exchange", 0), ("up",), ("count", (1, 3, (2,))), ("down",), ("exchange", n - 2),
            ]
            states = []
            for call in itertools.islice(itertools.cycle(calls), 60):
                states.append((yard.rule(), yard.row()))
                self.check_call(yard, account, call)
            self.assertEqual((yard.undoable(), yard.redoable()), (60, 0))
            self.check_call(yard, account, ("redo",))
            last = (yard.rule(), yard.row())
            for state in states[::-1]:
                self.check_call(yard, account, ("undo",))
                self.assertEqual((yard.rule(), yard.row()), state)
            self.check_call(yard, account, ("undo",))
            self.assertEqual((yard.undoable(), yard.redoable()), (0, 60))
            for state in states[1:] + [last]:
                self.check_call(yard, account, ("redo",))
                self.assertEqual((yard.rule(), yard.row()), state)
            self.check_call(yard, account, ("redo",))
            self.check_state(yard, account)

    def test_a_deed_behind_an_undo(self):
        yard = Yard(3)
        yard.exchange(0)
        yard.exchange(1)
        yard.undo()
        self.assertEqual((yard.undoable(), yard.redoable()), (1, 1))
        yard.down()
        self.assertEqual((yard.undoable(), yard.redoable()), (2, 0))
        self.assertRaises(NothingToRedo, yard.redo)
        yard.undo()
        yard.undo()
        self.assertEqual(yard.row(), (1, 2, 3))
        self.assertEqual((yard.undoable(), yard.redoable()), (0, 2))
        self.assertRaises(NothingToUndo, yard.undo)

    def test_a_call_that_raises_an_error_changes_nothing(self):
        yard = Yard(3)
        yard.blind((1, 2, ()))
        yard.up()
        yard.undo()
        before = kept_by(yard)
        for call in (
            lambda: yard.blind((1, 4, ())), lambda: yard.count(None), lambda: yard.exchange(2), lambda: read_yard("yard"),
        ):
            self.assertIsNotNone(raised_by(call))
            self.assertEqual(kept_by(yard), before)
        yard.redo()
        self.assertRaises(NothingToRedo, yard.redo)
        self.assertEqual((yard.undoable(), yard.redoable()), (2, 0))

    def test_a_deed_that_changes_nothing_is_one(self):
        yard = Yard(2)
        for call in (yard.down, lambda: yard.count((1, 2, ())), yard.down):
            call()
        self.assertEqual(yard.undoable(), 3)
        self.assertEqual((yard.rule(), yard.row()), (((1, 2, ()),), (1, 2)))

    def test_by_name(self):
        yard = Yard(n=3)
        yard.blind(arc=(1, 2, ()))
        yard.exchange(i=0)
        self.assertEqual(yard.row(), (2, 1, 3))
        self.assertEqual(yard.first(), (1, 2, 3))
        yard.count(arc=(1, 2, ()))
        self.assertEqual(yard.first(), (2, 1, 3))
        self.assertIs(yard.is_same(thing=read_yard(text=yard.text())), True)


class CopiesTest(unittest.TestCase):
    """[13.1]"""

    def test_copied(self):
        yard = Yard(3)
        yard.blind((1, 3, ()))
        yard.exchange(1)
        yard.exchange(0)
        yard.undo()
        copy = yard.copied()
        self.assertIs(type(copy), Yard)
        self.assertIs(yard.is_same(copy), True)
        self.assertIs(copy.is_same(yard), True)
        self.assertEqual((copy.n, copy.rule(), copy.row()), (3, yard.rule(), (1, 3, 2)))
        self.assertEqual((copy.undoable(), copy.redoable()), (0, 0))
        self.assertRaises(NothingToUndo, copy.undo)
        self.assertRaises(NothingToRedo, copy.redo)
        copy.exchange(0)
        self.assertEqual((yard.row(), yard.undoable(), yard.redoable()), ((1, 3, 2), 2, 1))
        self.assertIs(yard.is_same(copy), False)
        yard.redo()
        self.assertIs(yard.is_same(copy), True)

    def test_is_same(self):
        yard = Yard(3)
        self.assertIs(yard.is_same(YARDS[1]), True)
        for thing in [*ANY, Own()]:
            if thing is not YARDS[1]:
                self.assertIs(yard.is_same(thing), False, thing)
        for change in (lambda one: one.blind((1, 2, ())), lambda one: one.exchange(0)):
            other = Yard(3)
            change(other)
            self.assertIs(yard.is_same(other), False)
            self.assertIs(other.is_same(yard), False)
            other.undo()
            self.assertIs(yard.is_same(other), True)
        self.assertIs(Yard(1).is_same(Yard(2)), False)
        check_yards(self)


@functools.cache
def all_texts(n):
    return {text_of(n, rule, row) for rule in plain.rules(n) for row in plain.rows(n)}


@functools.cache
def beginnings():
    """All tuples of lines with which texts of yards begin, for n up to 4 and the first two lines of greater n."""
    found = {(f"yard {n}",) for n in range(1, 8)}
    found |= {("yard 5", "row " + " ".join(map(str, row))) for row in plain.rows(5)}
    for text in (text for n in range(1, 5) for text in all_texts(n)):
        lines = tuple(text.split("\n"))
        found |= {lines[:k] for k in range(1, len(lines) + 1)}
    return found


def failing_line(text):
    """The number that BadText tells of a text that is not that of a yard, by a look at all texts."""
    lines = tuple(text.split("\n"))
    for k in range(1, len(lines) + 1):
        if lines[:k] not in beginnings():
            return k
    return len(lines) + 1


def failing_line_of_more(n, text):
    """The same for a text that begins with a right first line of n, or None if it is a right text."""
    lines = text.split("\n")
    if len(lines) == 1 or lines[1].split(" ") not in [["row", *map(str, row)] for row in plain.rows(n)]:
        return 2
    arcs = {" ".join(["arc", str(a), str(b), *map(str, some)]): (a, b, some) for a, b, some in plain.arcs(n)}
    known = []
    for k, line in enumerate(lines[2:], 3):
        arc = arcs.get(line)
        if arc is None or any(other >= arc for other in known):
            return k
        if any(plain.lies_within(other, arc) or plain.lies_within(arc, other) for other in known):
            return k
        known.append(arc)
    return None


def changed(text):
    """Texts that come of a text by a change anywhere."""
    lines = text.split("\n")
    found = [text + "\n", "\n" + text, text + " ", " " + text, text + "\n\n", text.upper(), text.replace("\n", "\n\n")]
    found += [text.replace(" ", "  "), text.replace("\n", " "), text.replace("\n", "\r\n"), text + "\narc", text[::-1]]
    found += [text + "\narc 1 2", text + "\narc 2 1", text + "\narc 1 3", text + "\narc 1 3 2", text + "\nrow 1"]
    for i, line in enumerate(lines):
        ahead, behind = lines[:i], lines[i + 1:]
        others = [[], [line, line], [line + " "], [" " + line], [line.replace(" ", "  ")], [line + " 1"], [line + " x"]]
        others += [["yard 5"], ["yard 8"], ["yard 0"], ["yard 01"], ["arc 1 2"], ["arc 1 3 2"], ["arc 2 3"], ["row 1 2"]]
        others += [[""], ["arc 3 4"], ["arc 1 4"], ["arc 2 2"], ["arc 0 1"], ["arc 1 +2"], ["arc  1 2"], ["arc 1 3 2 2"]]
        found += ["\n".join(ahead + other + behind) for other in others]
        found += ["\n".join(ahead + behind[:1] + [line] + behind[1:]), "\n".join(lines[:i])]
    for i in range(len(text)):
        found += [text[:i] + text[i + 1:], text[:i] + text[i] + text[i:]]
        found += [text[:i] + sign + text[i + 1:] for sign in " 1359a\n-"]
    return found


class TextsTest(unittest.TestCase):
    """[13.3]"""

    def check_read_back(self, n, rule, row):
        text = text_of(n, rule, row)
        yard = read_yard(text)
        self.assertIs(type(yard), Yard)
        self.assertTrue(same((yard.n, yard.rule(), yard.row()), (n, rule, row)))
        self.assertEqual((yard.undoable(), yard.redoable()), (0, 0))
        self.assertEqual(yard.text(), text)

    def test_read_back(self):
        for n in range(1, 5):
            for rule in plain.rules(n):
                for row in plain.rows(n)[::n]:
                    self.check_read_back(n, rule, row)
        for n in (5, 6, 7):
            for rule in rules_of_all_kinds(n):
                for row in drawn_rows(n, 2, n):
                    self.check_read_back(n, rule, row)

    def test_written_by_yards(self):
        yard, arcs = Yard(4), ()
        for arc in ((2, 4, (3,)), (1, 2, ()), (2, 4, ()), (1, 4, (2, 3))):
            yard.blind(arc)
            arcs += (arc,)
            self.assertEqual(yard.text(), text_of(4, plain.widest(4, arcs), (1, 2, 3, 4)))
            self.assertIs(read_yard(yard.text()).is_same(yard), True)
        self.assertEqual(yard.text(), "yard 4\nrow 1 2 3 4\narc 1 2\narc 2 4\narc 2 4 3")

    def check_bad(self, thing, at):
        error = raised_by(lambda: read_yard(thing))
        self.assertIs(type(error), BadText, thing)
        self.assertTrue(same(vars(error), {"at": at}), (thing, vars(error), at))
        self.assertTrue(same(error.at, at), (thing, at))

    def test_changed_anywhere(self):
        draw = random.Random(13)
        right = set().union(*[all_texts(n) for n in range(1, 5)])
        for n in range(1, 5):
            some = sorted(all_texts(n))
            for text in draw.sample(some, min(len(some), 25)):
                for other in dict.fromkeys(changed(text)):
                    if other in right:
                        self.assertEqual(read_yard(other).text(), other)
                    elif not other.startswith("yard 5\n") or failing_line(other) < 3:
                        self.check_bad(other, failing_line(other))

    def test_changed_texts_of_more_numbers(self):
        for n in (5, 6, 7):
            for rule in rules_of_all_kinds(n)[::4]:
                text = text_of(n, rule, drawn_rows(n, 1, n)[0])
                for other in list(dict.fromkeys(changed(text)))[::7]:
                    if other.split("\n")[0] == f"yard {n}":
                        at = failing_line_of_more(n, other)
                        if at is None:
                            self.assertEqual(read_yard(other).text(), other)
                        else:
                            self.check_bad(other, at)

    def test_lines_by_hand(self):
        for text, at in (
            ("", 1), ("\n", 1), ("yard", 1), ("yard 3 ", 1), ("yard 0", 1), ("yard 8\nrow 1 2 3 4 5 6 7 8", 1),
            ("yard 03", 1), ("Yard 3", 1), ("yard 3", 2), ("yard 3\n", 2), ("yard 3\nrow", 2), ("yard 3\nrow 1 2", 2),
            ("yard 3\nrow 1 2 2", 2), ("yard 3\nrow 1 2 3 ", 2), ("yard 3\narc 1 2", 2), ("yard 3\nrow 1 2 3\n", 3),
            ("yard 3\nrow 1 2 3\narc 1 2\n", 4), ("yard 3\nrow 1 2 3\narc 1 4", 3), ("yard 3\nrow 1 2 3\narc 1 2 2", 3),
            ("yard 3\nrow 1 2 3\narc 1 2\narc 1 3", 4), ("yard 3\nrow 1 2 3\narc 2 3\narc 1 2", 4),
            ("yard 3\nrow 1 2 3\narc 1 3 2\narc 1 3", 4), ("yard 3\nrow 1 2 3\narc 1 3\narc 1 3 2\narc 2 3", 5),
            ("yard 3\nrow 1 2 3\narc 1 2\narc 1 2", 4), ("yard 3\nrow 1 2 3\nrow 1 2 3", 3), ("yard 1\nrow 1\narc 1 1", 3),
            ("yard 4\nrow 1 2 3 4\narc 1 4 3 2", 3), ("yard 4\nrow 1 2 3 4\narc 1 4 2 3\narc 2 4 3", 4),
            ("yard 3\r\nrow 1 2 3", 1), ("yard 3\nrow 1 2 3\r", 2), ("yard 3\nrow\t1 2 3", 2), ("yard 3\x0brow 1 2 3", 1),
            ("yard \u0663\nrow 1 2 3", 1), ("~" * 800, 1), ("\n" * 800, 1),
        ):
            self.check_bad(text, at)

    def test_no_strings(self):
        for thing in [*ANY, b"yard 1\nrow 1", ["yard 1", "row 1"], ("yard 1\nrow 1",), Yard(1)]:
            if type(thing) is not str:
                self.check_bad(thing, 0)
            else:
                self.check_bad(thing, 1)
        check_yards(self)


class WrongInputsTest(unittest.TestCase):
    def check_wrong_thing(self, n, name, error, values):
        for thing in values:
            yard = Yard(n)
            kept = repr(thing), kept_by(yard)
            found = raised_by(lambda: getattr(yard, name)(thing))
            self.assertIs(type(found), error)
            self.assertIs(found.thing, thing)
            self.assertEqual((repr(thing), kept_by(yard)), kept)

    def test_arcs(self):
        for n in (1, 2, 3, 7):
            for name in ("blind", "count"):
                self.check_wrong_thing(n, name, BadArc, wrong_arcs(n))
        check_yards(self)

    def test_positions(self):
        for n in (1, 2, 3, 7):
            self.check_wrong_thing(n, "exchange", BadNumber, wrong_numbers(n))
        check_yards(self)


class YardClassTest(unittest.TestCase):
    def test_each_method_stands_in_the_class_itself(self):
        names = ["rule", "row", "text", "first", "last", "undoable", "redoable", *DEEDS, "undo", "redo", "copied", "is_same"]
        for name in names:
            self.assertIn(name, vars(Yard))
        self.assertEqual(Yard.__bases__, (object,))
        self.assertEqual((Yard.__module__, read_yard.__module__), ("keptarcs.yards", "keptarcs.yards"))
        self.assertIs(yards.Yard, Yard)


if __name__ == "__main__":
    unittest.main()

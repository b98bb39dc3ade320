"""Yards: they keep a rule and a row under changes, which can be undone and done again; and their texts."""

from keptarcs.arcs import all_arcs, arcs_within, check_arc, is_arc, lies_within
from keptarcs.classes import first_in_class, last_in_class
from keptarcs.errors import BadText, NothingToRedo, NothingToUndo
from keptarcs.rows import exchanged, is_row
from keptarcs.rules import least_blind, widest_rule


def line_of(word, numbers):
    """The line of a text that has a word and some numbers."""
    return " ".join([word] + [str(p) for p in numbers])


class Yard:
    """A rule and a row of n, and what was done."""

    def __init__(self, n):
        self.n = n
        self._rule = all_arcs(n)
        self._row = tuple(range(1, n + 1))
        self._done = []
        self._undone = []

    def rule(self):
        """The rule."""
        return self._rule

    def row(self):
        """The row."""
        return self._row

    def text(self):
        """The text of the yard."""
        lines = [line_of("yard", (self.n,)), line_of("row", self._row)]
        for a, b, ahead in least_blind(self.n, self._rule):
            lines.append(line_of("arc", (a, b) + ahead))
        return "\n".join(lines)

    def first(self):
        """The first row of the class of the row."""
        return first_in_class(self.n, self._rule, self._row)

    def last(self):
        """The last row of the class of the row."""
        return last_in_class(self.n, self._rule, self._row)

    def undoable(self):
        """How many deeds can be undone."""
        return len(self._done)

    def redoable(self):
        """How many deeds can be done again."""
        return len(self._undone)

    def _do(self, rule, row):
        """Do a deed: the yard gets a rule and a row."""
        self._done.append((self._rule, self._row))
        self._undone = []
        self._rule = rule
        self._row = row

    def blind(self, arc):
        """Let all arcs that have the arc within them become blind."""
        check_arc(self.n, arc)
        rule = tuple([other for other in self._rule if not lies_within(self.n, arc, other)])
        self._do(rule, self._row)

    def count(self, arc):
        """Let all arcs within the arc count."""
        within = arcs_within(self.n, arc)
        self._do(tuple(sorted(set(self._rule) | set(within))), self._row)

    def exchange(self, i):
        """Let the numbers at i and i + 1 change places."""
        self._do(self._rule, exchanged(self.n, self._row, i))

    def down(self):
        """Let the row become the first row of its class."""
        self._do(self._rule, self.first())

    def up(self):
        """Let the row become the last row of its class."""
        self._do(self._rule, self.last())

    def undo(self):
        """Give rule and row back as they were ahead of the last deed that is not undone."""
        if not self._done:
            raise NothingToUndo()
        self._undone.append((self._rule, self._row))
        self._rule, self._row = self._done.pop()

    def redo(self):
        """Give rule and row as they were ahead of the last undo that has not been done again."""
        if not self._undone:
            raise NothingToRedo()
        self._done.append((self._rule, self._row))
        self._rule, self._row = self._undone.pop()

    def copied(self):
        """A new yard with the same n, rule and row, and with nothing to undo or to redo."""
        return yard_with(self.n, self._rule, self._row)

    def is_same(self, thing):
        """Whether any value is a yard with equal n, rule and row."""
        if not isinstance(thing, Yard) or thing.n != self.n:
            return False
        return thing.rule() == self._rule and thing.row() == self._row


def yard_with(n, rule, row):
    """A new yard with a rule and a row."""
    found = Yard(n)
    found._rule = rule
    found._row = row
    return found


def number_of_yard(line):
    """The n of the first line of a text."""
    for n in range(1, 8):
        if line == line_of("yard", (n,)):
            return n
    raise BadText(1)


def numbers_of_line(n, word, line):
    """The tuple of the numbers behind the word with which a line begins, or None if it is no such line.

    Other words than the numbers from 1 to n are told as 0, which no line has.
    """
    words = line.split(" ")
    known = {str(p): p for p in range(1, n + 1)}
    if words[0] != word:
        return None
    return tuple([known.get(told, 0) for told in words[1:]])


def row_of_line(n, line):
    """The row of the second line of a text."""
    row = numbers_of_line(n, "row", line)
    if not is_row(n, row):
        raise BadText(2)
    return row


def arc_of_line(n, line):
    """The arc that a line of a text tells, or None if it tells none."""
    numbers = numbers_of_line(n, "arc", line)
    if numbers is None:
        return None
    arc = numbers[:2] + (numbers[2:],)
    if not is_arc(n, arc):
        return None
    return arc


def may_follow(n, arcs, arc):
    """Whether an arc can stand behind some least blind arcs in a text."""
    if arcs and not arcs[-1] < arc:
        return False
    return not any([lies_within(n, other, arc) or lies_within(n, arc, other) for other in arcs])


def arcs_of_lines(n, lines):
    """The tuple of the least blind arcs of a text, told by the lines from the third one on."""
    arcs = ()
    for at, line in enumerate(lines):
        arc = arc_of_line(n, line)
        if arc is None or not may_follow(n, arcs, arc):
            raise BadText(at + 3)
        arcs = arcs + (arc,)
    return arcs


def read_yard(text):
    """A new yard with the n, the row and the rule of a text."""
    if not isinstance(text, str):
        raise BadText(0)
    lines = text.split("\n")
    n = number_of_yard(lines[0])
    if len(lines) == 1:
        raise BadText(2)
    row = row_of_line(n, lines[1])
    arcs = arcs_of_lines(n, lines[2:])
    return yard_with(n, widest_rule(n, arcs), row)

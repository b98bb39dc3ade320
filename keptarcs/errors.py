"""The errors that the functions and methods of this package raise."""


class ArcError(Exception):
    """The base class of all errors of this package."""


class BadRow(ArcError):
    """A value that is no row."""

    def __init__(self, thing):
        self.thing = thing


class BadArc(ArcError):
    """A value that is no arc."""

    def __init__(self, thing):
        self.thing = thing


class BadLot(ArcError):
    """A value that is no lot, or no tuple of what was asked for."""

    def __init__(self, thing):
        self.thing = thing


class BadRule(ArcError):
    """A value that is no rule."""

    def __init__(self, thing):
        self.thing = thing


class BadPairs(ArcError):
    """A value that is no tuple of the pairs that were asked for."""

    def __init__(self, thing):
        self.thing = thing


class BadNumber(ArcError):
    """A value that is no integer within its bounds."""

    def __init__(self, thing):
        self.thing = thing


class BadMarks(ArcError):
    """A value that is no tuple of marks."""

    def __init__(self, thing):
        self.thing = thing


class BadTree(ArcError):
    """A value that is no tree."""

    def __init__(self, thing):
        self.thing = thing


class BadMachine(ArcError):
    """A value that is no machine."""

    def __init__(self, thing):
        self.thing = thing


class BadWord(ArcError):
    """A value that is no word, or no tuple of words."""

    def __init__(self, thing):
        self.thing = thing


class BadWeights(ArcError):
    """A value that is no tuple of weights, or no point."""

    def __init__(self, thing):
        self.thing = thing


class BadOrder(ArcError):
    """A value that is no small order."""

    def __init__(self, thing):
        self.thing = thing


class BadMap(ArcError):
    """A value that is no map."""

    def __init__(self, thing):
        self.thing = thing


class BadText(ArcError):
    """A text that is not that of a yard, and the line at which it fails."""

    def __init__(self, at):
        self.at = at


class NothingToUndo(ArcError):
    """There is no deed that can be undone."""


class NothingToRedo(ArcError):
    """There is no deed that can be done again."""

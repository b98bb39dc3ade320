"""Runs examples that are written as in the document: `>>> ` lines, and what comes of them."""

from keptarcs import errors


def steps(text):
    """The pairs (code, what comes of it or "") of a text, in their order."""
    found = []
    for line in text.strip().splitlines():
        if line.startswith(">>> "):
            found.append([line[4:], ""])
        else:
            found[-1][1] += line
    return found


def outcome(code, names):
    """What comes of one line of code, as the document writes it."""
    try:
        return repr(eval(code, names))
    except errors.ArcError as error:
        told = ", ".join(repr(value) for value in vars(error).values())
        return f"raises {error.__class__.__name__}({told})"


def check(test, text):
    """Check all examples of a text."""
    names = {}
    for code, expected in steps(text):
        if expected:
            test.assertEqual(outcome(code, names), expected, code)
        else:
            exec(code, names)

"""Of what kind a value is: what all other files ask of values that can be any."""


def is_number(thing):
    """Whether any value is an integer; True and False are none."""
    return isinstance(thing, int) and not isinstance(thing, bool)


def is_number_from(thing, low, high):
    """Whether any value is an integer from low to high."""
    return is_number(thing) and low <= thing <= high


def are_numbers(thing):
    """Whether any value is a tuple of integers."""
    return isinstance(thing, tuple) and all([is_number(part) for part in thing])


def are_ascending_numbers(thing):
    """Whether any value is an ascending tuple of integers."""
    return are_numbers(thing) and list(thing) == sorted(set(thing))


def is_certificate(thing, word, length):
    """Whether any value is a tuple of some length that begins with the word."""
    return isinstance(thing, tuple) and len(thing) == length and thing[0] == word

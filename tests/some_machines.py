"""Machines of all kinds for the tests, plain searches by words, and values that are no machines."""

import functools
import itertools
import random

from tests.values import ANY, YARDS, Own, spoiled

ALL = ((0,), (0,), (True,))
NONE = ((0,), (0,), (False,))
TREES = ((1, 1), (0, 1), (True, False))
LATE = ((0, 1), (1, 1), (True, False))
STEPS = ((1, 1), (1, 1), (True, False))
TWINS = ((1, 1, 3, 3), (2, 3, 2, 3), (True, True, True, False))


@functools.cache
def words(most):
    """All words of up to some length, shorter ones first."""
    return ["".join(word) for many in range(most + 1) for word in itertools.product("AB", repeat=many)]


@functools.cache
def read_by(machine, most):
    """The set of the words of up to some length that a machine reads."""
    states, found = {"": 0}, set()
    for word in words(most):
        if word:
            states[word] = machine["AB".index(word[-1])][states[word[:-1]]]
        if machine[2][states[word]]:
            found.add(word)
    return found


def stretches(word):
    return {word[i:k] for i in range(len(word) + 1) for k in range(i, len(word) + 1)}


@functools.cache
def is_rule(machine, most):
    """Whether a machine reads all stretches of the words of up to some length that it reads."""
    known = read_by(machine, most)
    return all(stretches(word) <= known for word in known)


def machines_of(many):
    """All machines of some states."""
    states = list(itertools.product(range(many), repeat=many))
    return itertools.product(states, states, itertools.product((True, False), repeat=many))


@functools.cache
def small_rules():
    """All rules for all n of one and of two states, and some of three, as all words up to ten letters tell."""
    three = random.Random(3).sample(list(machines_of(3)), 500)
    found = [machine for many in (1, 2) for machine in machines_of(many) if is_rule(machine, 8)]
    return found + [machine for machine in three if is_rule(machine, 8) and is_rule(machine, 10)]


def by_last_letters(shunned):
    """A machine of 16 states that shuns words of up to four letters: its states are the last three letters."""
    names = words(3)

    def behind(name, letter):
        read = name + letter
        return 15 if any(word in read for word in shunned) else names.index(read[-3:])
    moves = [tuple(behind(name, letter) for name in names) + (15,) for letter in "AB"]
    return (*moves, (True,) * 15 + (False,))


def renamed(machine, seed):
    """A machine that reads the same words, with other numbers for its states."""
    many = len(machine[2])
    order = [0] + random.Random(seed).sample(range(1, many), many - 1)
    moves = [tuple(order.index(part[state]) for state in order) for part in machine[:2]]
    return (*moves, tuple(machine[2][state] for state in order))


def some_shunned():
    """Tuples of one to four words of one to four letters."""
    draw = random.Random(4)
    found = [(word,) for word in words(4)[1:]] + [("A", "B"), ("AA", "AB", "BA", "BB"), ("A", "A", "A", "A")]
    found += [("AB", "ABAB"), ("ABAB", "BA"), ("AABA", "AB"), ("AAAA", "BBBB", "ABAB", "BABA"), ("ABBA",) * 4]
    return found + [tuple(draw.choices(words(4)[1:], k=draw.randint(2, 4))) for _ in range(40)]


def wide_rules():
    """Rules for all n of 16 states."""
    return [renamed(by_last_letters(shunned), 5) for shunned in [(), *some_shunned()[::9]]]


def some_rules():
    """Rules for all n of all kinds."""
    return [ALL, NONE, TREES, LATE, STEPS, TWINS, *small_rules()[::3], *wide_rules()]


def others():
    """Machines that are no rules for all n."""
    found = [machine for machine in machines_of(2) if not is_rule(machine, 8)]
    found += [machine for machine in random.Random(6).sample(list(machines_of(3)), 80) if not is_rule(machine, 8)]
    wide = by_last_letters(())
    good = [tuple(k != bad for k in range(16)) for bad in (0, 1, 7, 14)]
    return found + [(wide[0], wide[1], told) for told in good]


def bent(machine):
    """A machine with a state beyond, parts of unlike lengths, integers for bools, bools for integers, more parts."""
    ahead, behind, good = machine
    many = len(good)
    found = [(behind, good), (ahead, behind), (good, ahead, behind), (ahead, good, behind), machine + (good,)]
    found += [(ahead + (0,), behind, good), (ahead, behind + (0,), good), (ahead, behind, good + (True,))]
    found += [(ahead, behind, good[1:]), (ahead, behind, ()), ((), (), ()), (ahead[1:], behind[1:], good)]
    for state in (many, -1, True, False, str(ahead[0]), None, (0,), 10 ** 39, YARDS[0]):
        found += [((state,) + ahead[1:], behind, good), (ahead, behind[:-1] + (state,), good)]
    for told in (0, 1, "True", None, (), Own(), YARDS[1]):
        found += [(ahead, behind, (told,) + good[1:]), (ahead, behind, good[:-1] + (told,))]
    found += [(list(ahead), behind, good), (ahead, list(behind), good), (ahead, behind, list(good)), list(machine)]
    return found + [({}, behind, good), (ahead, behind, None), (ahead, "0" * many, good), {"ahead": ahead}]


def is_machine(thing):
    if type(thing) is not tuple or len(thing) != 3 or any(type(part) is not tuple for part in thing):
        return False
    many = len(thing[0])
    if many not in range(1, 17) or len(thing[1]) != many or len(thing[2]) != many:
        return False
    if any(type(state) is not int or state not in range(many) for part in thing[:2] for state in part):
        return False
    return all(told is True or told is False for told in thing[2])


def wrong_machines():
    found = [*ANY, *(other for machine in (ALL, TREES, TWINS, wide_rules()[1]) for other in bent(machine))]
    found += [((0,) * 17, (0,) * 17, (True,) * 17), ((16,) * 16, (0,) * 16, (True,) * 16)]
    found += [other for machine in (ALL, TREES) for other in spoiled(machine)]
    return [thing for thing in found if not is_machine(thing)]

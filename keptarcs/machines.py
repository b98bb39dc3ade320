"""Rules for all n at once, told by machines that read the turn words of arcs."""

from keptarcs.arcs import all_arcs, check_arc
from keptarcs.errors import BadMachine, BadWord
from keptarcs.kinds import is_certificate, is_number_from

LETTERS = ("A", "B")


def is_machine(thing):
    """Whether any value is a machine."""
    if not isinstance(thing, tuple) or len(thing) != 3 or not all([isinstance(part, tuple) for part in thing]):
        return False
    ahead, behind, good = thing
    many = len(good)
    if not 1 <= many <= 16 or len(ahead) != many or len(behind) != many:
        return False
    if not all([is_number_from(state, 0, many - 1) for state in ahead + behind]):
        return False
    return all([isinstance(told, bool) for told in good])


def check_machine(machine):
    """Raise BadMachine with a value that is no machine."""
    if not is_machine(machine):
        raise BadMachine(machine)


def word_of(arc):
    """The turn word of what is known to be an arc."""
    a, b, ahead = arc
    return "".join(["A" if p in ahead else "B" for p in range(a + 1, b)])


def turn_word(n, arc):
    """The turn word of an arc."""
    check_arc(n, arc)
    return word_of(arc)


def is_word(thing):
    """Whether any value is a string of the letters A and B."""
    return isinstance(thing, str) and all([letter in LETTERS for letter in thing])


def state_behind(machine, state, letter):
    """The state that comes of a state when a letter is read."""
    ahead, behind, _ = machine
    if letter == "A":
        return ahead[state]
    return behind[state]


def reads_word(machine, word):
    """Whether a machine reads a word, for a machine and a word that are known to be such."""
    state = 0
    for letter in word:
        state = state_behind(machine, state, letter)
    return machine[2][state]


def reads(machine, word):
    """Whether a machine reads a word."""
    check_machine(machine)
    if not is_word(word):
        raise BadWord(word)
    return reads_word(machine, word)


def words_to_pairs(one, other, start):
    """A dict of all pairs of states that two machines come to together, with a shortest word for each.

    They begin in the pair start; pairs with shorter words come first.
    """
    words = {start: ""}
    fresh = [start]
    while fresh:
        found = []
        for pair in fresh:
            for letter in LETTERS:
                behind = (state_behind(one, pair[0], letter), state_behind(other, pair[1], letter))
                if behind not in words:
                    words[behind] = words[pair] + letter
                    found.append(behind)
        fresh = found
    return words


def words_only_of_first(one, other, start):
    """The list of words, shortest ones first, that lead a machine to a good state and the other one to none."""
    pairs = words_to_pairs(one, other, start)
    return [word for (p, q), word in pairs.items() if one[2][p] and not other[2][q]]


def broken_stretches(machine):
    """The list of pairs of a word that a machine reads and a stretch of it that it does not read.

    If there is none, it reads all stretches of what it reads: these come of a word by taking away
    its first or its last letter, again and again.
    """
    found = []
    words = words_to_pairs(machine, machine, (0, 0))
    for letter in LETTERS:
        behind = state_behind(machine, 0, letter)
        found.extend([(letter + word, word) for word in words_only_of_first(machine, machine, (behind, 0))])
        for (state, _), word in words.items():
            if machine[2][state_behind(machine, state, letter)] and not machine[2][state]:
                found.append((word + letter, word))
    return found


def judge_machine(machine):
    """A certificate of whether a machine is a rule for all n."""
    check_machine(machine)
    found = broken_stretches(machine)
    if found:
        return ("stretch",) + found[0]
    return ("rule",)


def stretch_holds(machine, word, other):
    """Whether any two values are a word that is read, and a stretch of it that is not."""
    if not is_word(word) or not is_word(other) or other not in word:
        return False
    return reads_word(machine, word) and not reads_word(machine, other)


def machine_holds(machine, thing):
    """Whether any value is a certificate for a machine."""
    check_machine(machine)
    if is_certificate(thing, "stretch", 3):
        return stretch_holds(machine, thing[1], thing[2])
    return is_certificate(thing, "rule", 1) and len(broken_stretches(machine)) == 0


def check_rule_for_all(machine):
    """Raise BadMachine with a value that is no rule for all n."""
    if not is_machine(machine) or broken_stretches(machine):
        raise BadMachine(machine)


def rule_for(n, machine):
    """The rule for n of a rule for all n."""
    check_rule_for_all(machine)
    return tuple([arc for arc in all_arcs(n) if reads_word(machine, word_of(arc))])


def states_passed(machine, states):
    """The list of what the states of the arcs that pass a number can become at it, in their order.

    Those ahead of some place are turned one way, those behind it the other way; there one arc may
    end, and one may begin.
    """
    ahead, behind, good = machine
    found = []
    for i in range(len(states) + 1):
        front = tuple([ahead[state] for state in states[:i]])
        rests = [states[i:]]
        if i < len(states) and good[states[i]]:
            rests.append(states[i + 1:])
        for rest in rests:
            back = tuple([behind[state] for state in rest])
            found.extend([front + back, front + (0,) + back])
    return found


def counted_on(machine, counts, left):
    """The dict of how many choices come to some states, one number on; left is how many numbers are left."""
    found = {}
    for states in counts:
        for passed in states_passed(machine, states):
            # Each open arc needs a number of its own to end at.
            if len(passed) <= left:
                found[passed] = found.get(passed, 0) + counts[states]
    return found


def many_classes(n, machine):
    """How many classes the rule for n of a rule for all n has: how many lots its arcs have."""
    check_rule_for_all(machine)
    counts = {(): 1}
    for p in range(1, n + 1):
        counts = counted_on(machine, counts, n - p)
    return counts[()]


def parting_words(one, other):
    """The list of words that just one of two machines reads, in which the shortest one stands first."""
    pairs = words_to_pairs(one, other, (0, 0))
    return [word for (p, q), word in pairs.items() if one[2][p] != other[2][q]]


def lacking_words(one, other):
    """The list of words that the second machine reads and the first one does not, the shortest one first."""
    return words_only_of_first(other, one, (0, 0))


def check_two_rules_for_all(one, other):
    """Raise BadMachine with the first one of two values that is no rule for all n."""
    check_rule_for_all(one)
    check_rule_for_all(other)


def is_word_certificate(thing, length):
    """Whether any value is a certificate that tells a word of some length."""
    return is_certificate(thing, "word", 2) and is_word(thing[1]) and len(thing[1]) == length


def judge_alike(one, other):
    """A certificate of whether two rules for all n are alike."""
    check_two_rules_for_all(one, other)
    words = parting_words(one, other)
    if words:
        return ("word", words[0])
    return ("alike",)


def alike_holds(one, other, thing):
    """Whether any value is a certificate of whether two rules for all n are alike."""
    check_two_rules_for_all(one, other)
    words = parting_words(one, other)
    if not words:
        return is_certificate(thing, "alike", 1)
    if not is_word_certificate(thing, len(words[0])):
        return False
    return reads_word(one, thing[1]) != reads_word(other, thing[1])


def judge_finer(one, other):
    """A certificate of whether the first rule for all n is finer than the second one."""
    check_two_rules_for_all(one, other)
    words = lacking_words(one, other)
    if words:
        return ("word", words[0])
    return ("finer",)


def finer_holds(one, other, thing):
    """Whether any value is a certificate of whether the first rule for all n is finer than the second one."""
    check_two_rules_for_all(one, other)
    words = lacking_words(one, other)
    if not words:
        return is_certificate(thing, "finer", 1)
    if not is_word_certificate(thing, len(words[0])):
        return False
    return reads_word(other, thing[1]) and not reads_word(one, thing[1])


def are_words_to_shun(thing):
    """Whether any value is a tuple of one to four words of one to four letters each."""
    if not isinstance(thing, tuple) or not 1 <= len(thing) <= 4:
        return False
    return all([is_word(word) and 1 <= len(word) <= 4 for word in thing])


def has_stretch(text, words):
    """Whether some of the words is a stretch of a text."""
    return any([word in text for word in words])


def begun(words, read):
    """The longest end of what is read that some word begins with."""
    ends = [read[i:] for i in range(len(read) + 1)]
    return [end for end in ends if any([word.startswith(end) for word in words])][0]


def shunning(words):
    """A machine that reads just the words that have none of some words as a stretch."""
    if not are_words_to_shun(words):
        raise BadWord(words)
    # A state is what has been read last, as far as some word may go on from it. The empty word is the state 0.
    beginnings = sorted({word[:i] for word in words for i in range(len(word))})
    names = [name for name in beginnings if not has_stretch(name, words)]
    numbers = {name: state for state, name in enumerate(names)}
    bad = len(names)
    moves = []
    for letter in LETTERS:
        reached = [begun(words, name + letter) for name in names]
        moves.append(tuple([numbers.get(end, bad) for end in reached] + [bad]))
    return (moves[0], moves[1], (True,) * bad + (False,))

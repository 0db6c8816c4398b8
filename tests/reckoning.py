"""Words, patterns and machines reckoned straight from the document, without the program."""

import itertools
import unittest


def words_up_to(wide, size):
    """All words up to this length, in their order."""
    words = []
    for length in range(size + 1):
        words.extend(itertools.product(range(wide), repeat=length))
    return words


def state_behind(machine, state, word):
    if word == ():
        return state
    return state_behind(machine, machine[state][1][word[0]], word[1:])


def owns(machine, word):
    good, steps = machine[state_behind(machine, 0, word)]
    return good == 1


def words_had(machine, wide, size):
    """The words up to this length that the machine has."""
    return {word for word in words_up_to(wide, size) if owns(machine, word)}


def one_behind_the_other(words, others, size):
    """The words up to this length that are one of these with one of the others behind it."""
    return {one + other for one in words for other in others if len(one) + len(other) <= size}


def any_number(words, size):
    """The words up to this length that are any number of these, one behind the other."""
    found = {()}
    more = found
    while more:
        more = one_behind_the_other(more, words, size) - found
        found = found | more
    return found


def words_told(pattern, wide, size):
    """The words up to this length that the pattern has, form by form."""
    name = pattern[0]
    if name == "none":
        return set()
    if name == "empty":
        return {()}
    if name == "letter":
        return {word for word in words_up_to(wide, size) if word == (pattern[1],)}
    if name == "any":
        return {word for word in words_up_to(wide, size) if len(word) == 1}
    parts = [words_told(part, wide, size) for part in pattern[1:]]
    if name == "then":
        return one_behind_the_other(parts[0], parts[1], size)
    if name == "or":
        return parts[0] | parts[1]
    if name == "and":
        return parts[0] & parts[1]
    if name == "not":
        return set(words_up_to(wide, size)) - parts[0]
    if name == "many":
        return any_number(parts[0], size)
    raise KeyError(name)


def names_within(pattern):
    """The names of all the patterns within it, its own too."""
    names = {pattern[0]}
    if pattern[0] != "letter":
        for part in pattern[1:]:
            names |= names_within(part)
    return names


def most_others(pattern):
    """In how many others the pattern lies that lies in the most of them, within this one."""
    if pattern[0] == "letter":
        return 0
    return max([most_others(part) + 1 for part in pattern[1:]], default=0)


def order_of_coming(machine):
    """The states that are come to, each at its first coming, as words are gone through in their order."""
    order = [0]
    for state in order:
        for step in machine[state][1]:
            if step not in order:
                order.append(step)
    return order


def pairs_told_apart(machine):
    """The pairs of states from which different words are had."""
    states = range(len(machine))
    told = {(one, other) for one in states for other in states if machine[one][0] != machine[other][0]}
    grows = True
    while grows:
        more = {(one, other) for one in states for other in states
                if any(pair in told for pair in zip(machine[one][1], machine[other][1]))}
        grows = not more <= told
        told |= more
    return told


def has_least_form(machine):
    states = len(machine)
    # Each pair of two different states, in both orders.
    return (order_of_coming(machine) == list(range(states))
            and len(pairs_told_apart(machine)) == states * (states - 1))


def is_plain_machine(machine, wide):
    """Whether it is made of tuples and whole numbers alone, which no truth is, in the form of a machine."""
    if type(machine) is not tuple or len(machine) == 0:
        return False
    for state in machine:
        if type(state) is not tuple or len(state) != 2:
            return False
        good, steps = state
        if type(good) is not int or good not in (0, 1) or type(steps) is not tuple or len(steps) != wide:
            return False
        if not all(type(step) is int and 0 <= step < len(machine) for step in steps):
            return False
    return True


def is_plain_word(word, wide):
    """Whether it is a tuple of whole numbers of letters, which no truth is."""
    return type(word) is tuple and all(type(letter) is int and 0 <= letter < wide for letter in word)


class MachineCase(unittest.TestCase):
    def is_told(self, machine, wide, size, words, asked):
        """The machine is least, of plain things, and has of the words up to this length just these."""
        self.assertTrue(is_plain_machine(machine, wide), (asked, machine))
        self.assertTrue(has_least_form(machine), (asked, machine))
        self.assertEqual(words_had(machine, wide, size), words, (asked, machine))

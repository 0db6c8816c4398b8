"""Tells what a machine has behind a word and ahead of others, its least and longest word, and two compared."""

from wordyard.grouping import sources_by
from wordyard.machines import behind, least, machine_from
from wordyard.pairs import apart, both, turned_out


def with_words(machine):
    # For each state 1 if some word is had from it on, else 0: found from the good states backward.
    sources = [sources_by(machine, letter) for letter in range(len(machine[0][1]))]
    found = [state[0] for state in machine]
    waiting = [number for number, state in enumerate(machine) if state[0] == 1]
    while len(waiting) > 0:
        target = waiting.pop()
        for by_letter in sources:
            for number in by_letter[target]:
                if found[number] == 0:
                    found[number] = 1
                    waiting.append(number)
    return found


def cut(machine, word):
    def steps_of(state):
        return machine[state][1]

    return least(machine_from(behind(machine, 0, word), steps_of, lambda state: machine[state][0]))


def heads(machine):
    found = with_words(machine)
    return least(tuple([(found[number], state[1]) for number, state in enumerate(machine)]))


def word_to(state, comings):
    letters = []
    while comings[state] is not None:
        letters.append(comings[state][1])
        state = comings[state][0]
    return tuple(reversed(letters))


def first_word(machine):
    # The first coming to a state is by its least word, and states are come to in the order of these
    # words. So the first good one that is met ends the least word.
    comings = {0: None}
    states = [0]
    place = 0
    while place < len(states):
        state = states[place]
        if machine[state][0] == 1:
            return word_to(state, comings)
        for letter, step in enumerate(machine[state][1]):
            if step not in comings:
                comings[step] = (state, letter)
                states.append(step)
        place += 1
    return None


def parting(one, other):
    return first_word(apart(one, other))


def one_letter_on(machine, states):
    steps = []
    for state in states:
        steps.extend(machine[state][1])
    return sorted(set(steps))


def longest(machine):
    found = with_words(machine)
    states = [0]
    for size in range(len(machine) + 1):
        # The states behind words of this length that are words or go on to some.
        states = [state for state in states if found[state] == 1]
        if len(states) == 0:
            return size - 1
        states = one_letter_on(machine, states)
    # A word as long as there are states comes to some state twice, and may go that round at will.
    return None


def lies_in(one, other):
    return first_word(both(one, turned_out(other))) is None

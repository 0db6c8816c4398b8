"""Reads words by a machine, and makes of a machine the least one that has the same words."""

from wordyard.grouping import firsts_alike
from wordyard.things import is_machine


def behind(machine, state, word):
    for letter in word:
        state = machine[state][1][letter]
    return state


def has(machine, word):
    return machine[behind(machine, 0, word)][0] == 1


def machine_from(start, steps_of, good_of):
    # A place is whatever a state shall stand for. Places get their numbers as they are come to, and
    # are gone through in the same order, so the states stand as they must in a least machine.
    numbers = {start: 0}
    places = [start]
    states = []
    while len(states) < len(places):
        place = places[len(states)]
        steps = steps_of(place)
        for step in steps:
            if step not in numbers:
                numbers[step] = len(places)
                places.append(step)
        states.append((good_of(place), tuple([numbers[step] for step in steps])))
    return tuple(states)


def least(machine):
    firsts = firsts_alike(machine)

    def steps_of(state):
        return [firsts[step] for step in machine[state][1]]

    return machine_from(firsts[0], steps_of, lambda state: machine[state][0])


def is_least(thing, wide):
    # There is just one least machine of the same words, so a least one is its own.
    return is_machine(thing, wide) and least(thing) == thing

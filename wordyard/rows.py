"""Makes the least machines of words laid behind one another, repeated, and read backward.

Each of them follows all the states at once in which a machine may be, as a tuple of these in order.
The machines handed in are made least first, so that no more such tuples come up than need be.
"""

from wordyard.grouping import Covers, sources_by
from wordyard.machines import least, machine_from

# Tuples of more states are left as they are: to compare all in them takes longer than it saves.
MOST_COMPARED = 10


def stepped(machine, states, letter):
    return tuple(sorted(set([machine[state][1][letter] for state in states])))


def with_start(states):
    return states if 0 in states else (0,) + states


def is_covered(state, states, covers):
    for other in states:
        if other != state and covers.covered((state, other)):
            return True
    return False


def uncovered(states, covers):
    # What is had from a state on need not be followed if another one has it all. Without this there
    # are patterns whose tuples become far too many, though their least machines are small.
    if len(states) > MOST_COMPARED:
        return states
    return tuple([state for state in states if not is_covered(state, states, covers)])


def any_good(machine, states):
    return max([machine[state][0] for state in states], default=0)


def stepping_into(states, sources):
    found = []
    for state in states:
        found.extend(sources[state])
    return tuple(sorted(found))


def joined(one, other, wide):
    first = least(one)
    second = least(other)
    covers = Covers(second)

    def come_to(state, states):
        # Wherever a word of one may end, a word of other may begin.
        return (state, uncovered(with_start(states) if first[state][0] == 1 else states, covers))

    def steps_of(place):
        return [come_to(first[place[0]][1][letter], stepped(second, place[1], letter)) for letter in range(wide)]

    return least(machine_from(come_to(0, ()), steps_of, lambda place: any_good(second, place[1])))


def repeated(machine, wide):
    inner = least(machine)
    covers = Covers(inner)

    def come_to(states):
        # Wherever a word may end, the next one may begin.
        good = any_good(inner, states)
        return (good, uncovered(with_start(states) if good == 1 else states, covers))

    def steps_of(place):
        return [come_to(stepped(inner, place[1], letter)) for letter in range(wide)]

    # The start is good by itself, for the empty word is had whether or not the machine has it.
    return least(machine_from((1, (0,)), steps_of, lambda place: place[0]))


def backward(machine, wide):
    inner = least(machine)
    sources = [sources_by(inner, letter) for letter in range(wide)]
    goods = tuple([number for number, state in enumerate(inner) if state[0] == 1])

    def steps_of(states):
        return [stepping_into(states, by_letter) for by_letter in sources]

    return least(machine_from(goods, steps_of, lambda states: 1 if 0 in states else 0))

"""Makes of a machine a pattern that has its words.

A way leads from one place to another, by each word of its pattern. The places are the states, a start
with a way to state 0, and an end with a way from each good state. The states are taken out one by one,
until the one way from the start to the end is left.
"""

from wordyard.errors import NoRoom
from wordyard.machines import least

MOST_STATES = 6
EMPTY = ("empty",)


def one_then_other(one, other):
    if one == EMPTY:
        return other
    if other == EMPTY:
        return one
    return ("then", one, other)


def add_way(ways, way, pattern):
    ways[way] = ("or", ways[way], pattern) if way in ways else pattern


def first_ways(machine, start, end):
    ways = {(start, 0): EMPTY}
    for number, state in enumerate(machine):
        for letter, step in enumerate(state[1]):
            add_way(ways, (number, step), ("letter", letter))
        if state[0] == 1:
            add_way(ways, (number, end), EMPTY)
    return ways


def without(ways, place):
    # Each way through the place, with any number of rounds there, becomes a way that passes it by.
    rounds = ("many", ways[(place, place)]) if (place, place) in ways else EMPTY
    sources = [way[0] for way in ways if way[1] == place and way[0] != place]
    targets = [way[1] for way in ways if way[0] == place and way[1] != place]
    rest = dict([(way, ways[way]) for way in ways if place not in way])
    for source in sources:
        into = one_then_other(ways[(source, place)], rounds)
        for target in targets:
            add_way(rest, (source, target), one_then_other(into, ways[(place, target)]))
    return rest


def pattern_of(machine):
    if len(machine) > MOST_STATES:
        raise NoRoom("the machine has too many states")
    inner = least(machine)
    start = len(inner)
    end = start + 1
    ways = first_ways(inner, start, end)
    # Up to three letters make a first way's pattern at most two deep, and each state that is taken out
    # lays at most four others around a pattern: so none comes to lie in more than 26.
    for place in range(len(inner) - 1, -1, -1):
        ways = without(ways, place)
    return ways.get((start, end), ("none",))

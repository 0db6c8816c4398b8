"""Makes the least machines of what two machines have both, either or apart, and of what one has not."""

from wordyard.machines import least, machine_from


def paired(one, other, good):
    def steps_of(pair):
        return list(zip(one[pair[0]][1], other[pair[1]][1]))

    def good_of(pair):
        return good(one[pair[0]][0], other[pair[1]][0])

    return least(machine_from((0, 0), steps_of, good_of))


def both(one, other):
    return paired(one, other, lambda first, second: first & second)


def either(one, other):
    return paired(one, other, lambda first, second: first | second)


def apart(one, other):
    return paired(one, other, lambda first, second: first ^ second)


def turned_out(machine):
    return least(tuple([(1 - state[0], state[1]) for state in machine]))

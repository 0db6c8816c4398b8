"""Makes of a pattern the least machine that has its words."""

from wordyard.machines import least
from wordyard.pairs import both, either, turned_out
from wordyard.rows import joined, repeated
from wordyard.things import parts_of


def machine_of_letters(letters, wide):
    # State 1 stands behind a word of just one of these letters, state 2 behind all that is lost.
    steps = tuple([1 if letter in letters else 2 for letter in range(wide)])
    return least(((0, steps), (1, (2,) * wide), (0, (2,) * wide)))


def machine_without_parts(pattern, wide):
    if pattern[0] == "none":
        return ((0, (0,) * wide),)
    if pattern[0] == "empty":
        return ((1, (1,) * wide), (0, (1,) * wide))
    if pattern[0] == "any":
        return machine_of_letters(list(range(wide)), wide)
    return machine_of_letters(pattern[1:], wide)


def put_together(name, machines, wide):
    if name == "not":
        return turned_out(machines[0])
    if name == "many":
        return repeated(machines[0], wide)
    if name == "then":
        return joined(machines[0], machines[1], wide)
    if name == "or":
        return either(machines[0], machines[1])
    return both(machines[0], machines[1])


def machine_of(pattern, wide):
    parts = parts_of(pattern)
    if len(parts) == 0:
        return machine_without_parts(pattern, wide)
    # Each part is made least by itself, which keeps small what is put together of them.
    return put_together(pattern[0], [machine_of(part, wide) for part in parts], wide)

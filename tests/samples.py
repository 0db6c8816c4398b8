"""Things that several tests hand in: patterns with their texts, things that are no patterns, and machines."""

import itertools

WIDES = (1, 2, 3)

LEAVES = [(("none",), "none"), (("empty",), "empty"), (("any",), "any"), (("letter", 0), "letter 0")]

# Each puts a pattern into one other, in each place that a part may have.
AROUND = [
    lambda part: ("not", part),
    lambda part: ("many", part),
    lambda part: ("then", part, ("any",)),
    lambda part: ("then", ("any",), part),
    lambda part: ("or", part, ("none",)),
    lambda part: ("or", ("none",), part),
    lambda part: ("and", part, ("letter", 0)),
    lambda part: ("and", ("letter", 0), part),
]

# What each of these puts ahead of the part's text and behind it.
AROUND_TEXTS = [
    ("not ", ""),
    ("many ", ""),
    ("then ", " any"),
    ("then any ", ""),
    ("or ", " none"),
    ("or none ", ""),
    ("and ", " letter 0"),
    ("and letter 0 ", ""),
]


def inside(thing, around, times):
    for _ in range(times):
        thing = around(thing)
    return thing


def simple_patterns(wide):
    """The patterns without parts, each with its text."""
    letters = [(("letter", k), "letter " + "012"[k]) for k in range(wide)]
    return [(("none",), "none"), (("empty",), "empty"), (("any",), "any")] + letters


def with_parts(patterns):
    """Each pattern that is made of these by one of the five forms with parts, with its text."""
    made = []
    for part, text in patterns:
        made.append((("not", part), "not " + text))
        made.append((("many", part), "many " + text))
        for other, behind in patterns:
            for name in ("then", "or", "and"):
                made.append(((name, part, other), name + " " + text + " " + behind))
    return made


def patterns_with_texts(wide):
    """Patterns of all nine forms, some of them two deep, each with its text."""
    simple = simple_patterns(wide)
    one_deep = with_parts(simple)
    return simple + one_deep + with_parts(one_deep[::3] + simple)


# No patterns, for any number of letters up to three.
NEVER_PATTERNS = [
    # Of another kind than a tuple.
    0, 1, -1, True, False, None, "", "none", "any", "letter 0", "not any",
    [], ["none"], ["any"], ["letter", 0], ["not", ("any",)], ["then", ("any",), ("any",)],
    # Tuples that begin with no name.
    (), (0,), (True,), (None,), ((),), ([],), (("none",),), (["none"],), ([], []), (None, ("any",)),
    (0, ("any",)), (["not"], ("any",)), (("not",), ("any",)),
    # Names that are no pattern's.
    ("",), ("None",), ("ANY",), ("nothing",), ("any ",), (" any",), ("some", ("any",)), ("xor", ("any",), ("any",)),
    ("Letter", 0), ("not any",), ("letter 0",), ("if", ("any",), ("any",), ("any",)),
    # A part too few or too many.
    ("none", 0), ("none", ("none",)), ("none", None), ("none", ()), ("empty", ()), ("empty", ("empty",)),
    ("any", 0), ("any", ("any",)), ("any", ("any",), ("any",)),
    ("letter",), ("letter", 0, 0), ("letter", 0, ("any",)),
    ("not",), ("not", ("any",), ("any",)), ("many",), ("many", ("any",), ("any",)), ("many", ("any",), None),
    ("then",), ("then", ("any",)), ("then", ("any",), ("any",), ("any",)),
    ("or",), ("or", ("any",)), ("or", ("any",), ("any",), ("any",)),
    ("and",), ("and", ("any",)), ("and", ("any",), ("any",), ("any",)),
    # What is no letter's number in the place of one.
    ("letter", True), ("letter", False), ("letter", -1), ("letter", -3), ("letter", 3), ("letter", 4),
    ("letter", 10 ** 30), ("letter", None), ("letter", "0"), ("letter", ""), ("letter", (0,)), ("letter", [0]),
    ("letter", ()), ("letter", []), ("letter", ("letter", 0)),
    # A list in the place of a tuple, deep inside.
    ("not", ("many", ["any"])), ("or", ("any",), ("not", ["letter", 0])), ("then", ("not", ("not", [])), ("any",)),
    # What is no pattern in the place of a part.
    ("not", 0), ("not", True), ("not", None), ("not", "any"), ("not", ()), ("not", ["any"]), ("not", ("not",)),
    ("many", 0), ("many", False), ("many", None), ("many", "any"), ("many", ()), ("many", ["any"]),
    ("then", ("any",), 0), ("then", 0, ("any",)), ("then", ("any",), None), ("then", None, ("any",)),
    ("or", ("any",), "any"), ("or", "any", ("any",)), ("or", ("any",), ["any"]), ("or", ["any"], ("any",)),
    ("and", ("any",), True), ("and", True, ("any",)), ("and", ("any",), ()), ("and", (), ("any",)),
    # Equal to patterns by Python's own measure, but with truths in them.
    ("or", ("letter", 0), ("letter", False)), ("or", ("letter", False), ("letter", 0)),
    ("not", ("many", ("letter", True))), ("then", ("letter", 0), ("many", ("letter", False))),
]


def deep_things():
    """Things of each kind, about sixty deep; none is a word, a pattern or a machine."""
    things = [inside(("any",), around, times) for around in AROUND for times in (41, 59, 60, 61)]
    for start in (0, True, None, "any", (), [], ("any",)):
        things.append(inside(start, lambda part: (part,), 60))
        things.append(inside(start, lambda part: [part], 60))
        things.append(inside(start, lambda part: ([part], part), 8))
        things.append(inside(start, lambda part: (0, (part,)), 30))
        things.append(inside(start, lambda part: ("not", [part]), 30))
    # Both parts are the same one: to walk all of it would never end.
    things.append(inside(("any",), lambda part: ("or", part, part), 60))
    things.append(inside((), lambda part: (part, part), 60))
    things.append(inside([], lambda part: [part, part], 60))
    return things


def no_patterns():
    """Pairs of a thing and a number of letters of which it is no pattern."""
    pairs = [(thing, wide) for thing in NEVER_PATTERNS + deep_things() for wide in (1, 2, 3)]
    for wide in (1, 2, 3):
        for k in range(wide, 4):
            pairs.append((("letter", k), wide))
            pairs.extend([(around(("letter", k)), wide) for around in AROUND])
            pairs.extend([(inside(("letter", k), around, 40), wide) for around in AROUND])
    return pairs


def all_machines(wide, states):
    """All machines of so many letters and states."""
    steps = list(itertools.product(range(states), repeat=wide))
    return itertools.product(itertools.product((0, 1), steps), repeat=states)


def mixed_numbers(start):
    """Numbers without end that look mixed, but are the same at each call."""
    while True:
        start = (start * 6364136223846793005 + 1442695040888963407) % 2 ** 64
        yield start >> 33


def some_machines(wide, states, many):
    """So many mixed machines of so many letters and states."""
    numbers = mixed_numbers(10 * states + wide)
    machines = []
    for _ in range(many):
        machines.append(tuple((next(numbers) % 2, tuple(next(numbers) % states for _ in range(wide)))
                              for _ in range(states)))
    return machines


def some_finite_machines(wide, states, many):
    """So many mixed machines that step on to later states alone, and in the last one stay for good."""
    machines = []
    for machine in some_machines(wide, states, many):
        last = states - 1
        ahead = [(good, tuple(min(last, k + 1 + step % 3) for step in steps)) for k, (good, steps) in enumerate(machine)]
        machines.append(tuple(ahead[:last]) + ((0, (last,) * wide),))
    return machines


def renumbered(machine, places):
    """The same machine with each state k at another place, which is places[k]."""
    states = [None] * len(machine)
    for k, (good, steps) in enumerate(machine):
        states[places[k]] = (good, tuple(places[step] for step in steps))
    return tuple(states)


def no_word(wide):
    return ((0, (0,) * wide),)


def each_word(wide):
    return ((1, (0,) * wide),)


def empty_word_alone(wide):
    return ((1, (1,) * wide), (0, (1,) * wide))


def several_machines(wide):
    """All machines of one and of two states, and some larger ones; most of them are not least."""
    machines = list(all_machines(wide, 1)) + list(all_machines(wide, 2))
    for states in (3, 4, 5, 6):
        machines.extend(some_machines(wide, states, 60))
    return machines


def long_chain(states):
    """The one word of one letter that is shorter by two than the machine has states."""
    return tuple([(0, (k + 1,)) for k in range(states - 2)]) + ((1, (states - 1,)), (0, (states - 1,)))


def ring(states, goods):
    """The words of one letter whose lengths, parted by so many states, leave one of these rests."""
    return tuple((1 if k in goods else 0, ((k + 1) % states,)) for k in range(states))


def otherwise_told(machine, wide):
    """Machines that have the same words: each state twice, states in another order, one more that is not come to."""
    states = len(machine)
    twice = []
    for turn in (0, 1):
        for good, steps in machine:
            twice.append((good, tuple(step + states * ((turn + k) % 2) for k, step in enumerate(steps))))
    turned = [0] + list(range(states - 1, 0, -1))
    return [tuple(twice), renumbered(machine, turned), machine + ((1, (0,) * wide), (0, (states,) * wide))]


def some_patterns(wide, deep, many):
    """So many mixed patterns of all nine forms, up to so deep."""
    numbers = mixed_numbers(100 * deep + wide)
    simple = [pattern for pattern, _ in simple_patterns(wide)]

    def mixed(left):
        if left == 0 or next(numbers) % 8 == 0:
            return simple[next(numbers) % len(simple)]
        name = ("then", "or", "and", "not", "many", "then")[next(numbers) % 6]
        if name in ("not", "many"):
            return (name, mixed(left - 1))
        return (name, mixed(left - 1), mixed(left - 1))

    return [mixed(deep) for _ in range(many)]

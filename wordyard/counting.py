"""Counts and lists the words of one length that a machine has."""


def summed(counts, steps):
    return sum([counts[step] for step in steps])


def count_of(machine, size):
    # How many words are had from each state on: at first those of length 0, then longer ones by a letter each.
    counts = [state[0] for state in machine]
    for length in range(size):
        counts = [summed(counts, state[1]) for state in machine]
    return counts[0]


def any_had(had, steps):
    return max([had[step] for step in steps])


def had_by_length(machine, size):
    # In row k, for each state: 1 if a word of length k is had from it on, else 0.
    rows = [[state[0] for state in machine]]
    for length in range(size):
        rows.append([any_had(rows[length], state[1]) for state in machine])
    return rows


def one_letter_longer(machine, begun, had):
    longer = []
    for word, state in begun:
        for letter, step in enumerate(machine[state][1]):
            if had[step] == 1:
                longer.append((word + (letter,), step))
    return longer


def words_of(machine, size):
    # Only beginnings are kept that end in a word of this size, so there are never more of them than words.
    rows = had_by_length(machine, size)
    begun = [((), 0)] if rows[size][0] == 1 else []
    for left in range(size - 1, -1, -1):
        begun = one_letter_longer(machine, begun, rows[left])
    return tuple([word for word, state in begun])

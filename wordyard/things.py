"""Tells of any thing whether it is a word, a pattern or a machine of so many letters."""

MOST_OTHERS = 40

# The letter is missing: what stands in it is a number, so it is asked by itself.
PARTS = {"none": 0, "empty": 0, "any": 0, "then": 2, "or": 2, "and": 2, "not": 1, "many": 1}


def is_number_below(thing, end):
    # Python counts True and False as ints, the document does not.
    return isinstance(thing, int) and not isinstance(thing, bool) and 0 <= thing < end


def are_numbers_below(thing, end):
    return isinstance(thing, tuple) and all([is_number_below(part, end) for part in thing])


def is_word(thing, wide):
    return are_numbers_below(thing, wide)


def has_form(thing, wide):
    # A dict can't be asked for a list, so the name must be known to be a text first.
    if not isinstance(thing, tuple) or len(thing) == 0 or not isinstance(thing[0], str):
        return False
    if thing[0] == "letter":
        return len(thing) == 2 and is_number_below(thing[1], wide)
    return PARTS.get(thing[0]) == len(thing) - 1


def parts_of(pattern):
    return () if pattern[0] == "letter" else pattern[1:]


def is_pattern_within(thing, wide, others):
    # Others is asked first: it also bounds the recursion, however deep the thing is.
    if others > MOST_OTHERS or not has_form(thing, wide):
        return False
    for part in parts_of(thing):
        if not is_pattern_within(part, wide, others + 1):
            return False
    return True


def is_pattern(thing, wide):
    return is_pattern_within(thing, wide, 0)


def is_state(thing, wide, states):
    if not isinstance(thing, tuple) or len(thing) != 2:
        return False
    return is_number_below(thing[0], 2) and are_numbers_below(thing[1], states) and len(thing[1]) == wide


def is_machine(thing, wide):
    # Reading begins in state 0, so a machine without states is none.
    if not isinstance(thing, tuple) or len(thing) == 0:
        return False
    return all([is_state(part, wide, len(thing)) for part in thing])

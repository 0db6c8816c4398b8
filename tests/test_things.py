import itertools
import reprlib
import unittest

from samples import (AROUND, LEAVES, NEVER_PATTERNS, WIDES, all_machines, deep_things, inside, no_patterns,
                     patterns_with_texts)
from wordyard.things import is_machine, is_pattern, is_word


class Told(unittest.TestCase):
    """Each answer is True or False itself, so it is asked with `is`."""

    def tells(self, ask, thing, wide, answer):
        # Shortened: some of the deep things can't be written out whole.
        self.assertIs(ask(thing, wide), answer, reprlib.repr((thing, wide)))


class Words(Told):
    def test_the_empty_word(self):
        for wide in WIDES:
            self.tells(is_word, (), wide, True)

    def test_all_words_up_to_four_letters(self):
        for wide in WIDES:
            for size in range(5):
                for word in itertools.product(range(wide), repeat=size):
                    self.tells(is_word, word, wide, True)

    def test_a_long_word(self):
        self.tells(is_word, (0, 1, 2) * 500, 3, True)
        self.tells(is_word, (0, 1, 2) * 500 + (3,), 3, False)

    def test_the_last_letter_and_the_one_beyond_it(self):
        for wide in WIDES:
            self.tells(is_word, (0,), wide, True)
            self.tells(is_word, (wide - 1,), wide, True)
            self.tells(is_word, (wide,), wide, False)
            self.tells(is_word, (0, 0, wide), wide, False)
            self.tells(is_word, (wide, 0, 0), wide, False)
            self.tells(is_word, (0, wide + 1, 0), wide, False)

    def test_negative_numbers(self):
        for wide in WIDES:
            for word in ((-1,), (0, -1), (-1, 0), (-wide,), (-(10 ** 30),)):
                self.tells(is_word, word, wide, False)

    def test_truths_are_no_letters(self):
        for wide in WIDES:
            for word in ((True,), (False,), (0, False), (False, 0), (0, True, 0)):
                self.tells(is_word, word, wide, False)

    def test_other_things_in_the_place_of_a_letter(self):
        for wide in WIDES:
            for part in (None, "", "0", (), (0,), [], [0], ("letter", 0)):
                for word in ((part,), (0, part), (part, 0)):
                    self.tells(is_word, word, wide, False)

    def test_other_things_in_the_place_of_a_word(self):
        for wide in WIDES:
            for thing in (0, 1, -1, True, False, None, "", "0", "00", [], [0], [0, 0], [()], ("any",)):
                self.tells(is_word, thing, wide, False)

    def test_deep_things(self):
        for wide in WIDES:
            for thing in deep_things():
                self.tells(is_word, thing, wide, False)
                self.tells(is_word, (0, thing), wide, False)


class Patterns(Told):
    def test_all_nine_forms(self):
        for wide in WIDES:
            for pattern, text in patterns_with_texts(wide):
                self.tells(is_pattern, pattern, wide, True)

    def test_a_pattern_several_deep(self):
        pattern = ("then", ("many", ("or", ("letter", 0), ("letter", 1))), ("not", ("and", ("any",), ("letter", 2))))
        self.tells(is_pattern, pattern, 3, True)
        self.tells(is_pattern, pattern, 2, False)
        self.tells(is_pattern, pattern, 1, False)

    def test_the_last_letter_and_the_one_beyond_it(self):
        for wide in WIDES:
            self.tells(is_pattern, ("letter", 0), wide, True)
            self.tells(is_pattern, ("letter", wide - 1), wide, True)
            self.tells(is_pattern, ("letter", wide), wide, False)

    def test_in_forty_others_but_not_in_more(self):
        for around in AROUND:
            for leaf, text in LEAVES:
                for wide in WIDES:
                    self.tells(is_pattern, inside(leaf, around, 39), wide, True)
                    self.tells(is_pattern, inside(leaf, around, 40), wide, True)
                    self.tells(is_pattern, inside(leaf, around, 41), wide, False)
                    self.tells(is_pattern, inside(leaf, around, 42), wide, False)

    def test_the_deepest_part_is_asked_too(self):
        for around in AROUND:
            for thing in NEVER_PATTERNS:
                self.tells(is_pattern, inside(thing, around, 40), 3, False)

    def test_no_patterns(self):
        for thing, wide in no_patterns():
            self.tells(is_pattern, thing, wide, False)

    def test_a_deep_thing_as_a_part_or_a_letter(self):
        for wide in WIDES:
            for deep in deep_things():
                for thing in (("letter", deep), ("any", deep), (deep, ("any",))):
                    self.tells(is_pattern, thing, wide, False)
                for around in AROUND:
                    self.tells(is_pattern, around(deep), wide, False)


def changed(machine, state, good, steps):
    """The machine with another good and other steps in one state."""
    return machine[:state] + ((good, steps),) + machine[state + 1:]


class Machines(Told):
    def test_all_machines_of_one_and_two_states(self):
        for wide in WIDES:
            for states in (1, 2):
                for machine in all_machines(wide, states):
                    self.tells(is_machine, machine, wide, True)

    def test_machines_of_more_states(self):
        self.tells(is_machine, ((0, (1,)), (0, (2,)), (1, (0,))), 1, True)
        self.tells(is_machine, ((1, (1, 2)), (0, (2, 2)), (0, (0, 1))), 2, True)
        self.tells(is_machine, ((0, (3, 2, 1)), (1, (0, 0, 0)), (1, (3, 3, 3)), (0, (1, 2, 3))), 3, True)
        self.tells(is_machine, tuple([(0, (k, 99, 0)) for k in range(100)]), 3, True)

    def test_a_machine_need_not_be_least(self):
        self.tells(is_machine, ((0, (0, 0)), (0, (1, 1))), 2, True)
        self.tells(is_machine, ((1, (2, 1)), (1, (0, 0)), (1, (2, 1))), 2, True)

    def test_no_state_is_no_machine(self):
        for wide in WIDES:
            self.tells(is_machine, (), wide, False)

    def test_steps_to_the_last_state_and_beyond_it(self):
        for wide in WIDES:
            for states in (1, 2, 3):
                plain = ((0, (0,) * wide),) * states
                for state in range(states):
                    for place in range(wide):
                        for to, answer in ((states - 1, True), (states, False), (states + 1, False), (-1, False)):
                            steps = (0,) * place + (to,) + (0,) * (wide - place - 1)
                            self.tells(is_machine, changed(plain, state, 0, steps), wide, answer)

    def test_steps_too_few_or_too_many(self):
        for wide in WIDES:
            for states in (1, 2, 3):
                plain = ((1, (0,) * wide),) * states
                for state in range(states):
                    for size in range(6):
                        self.tells(is_machine, changed(plain, state, 1, (0,) * size), wide, size == wide)

    def test_machines_of_another_number_of_letters(self):
        for wide in WIDES:
            for other in WIDES:
                self.tells(is_machine, ((0, (1,) * wide), (1, (0,) * wide)), other, wide == other)

    def test_good(self):
        for wide in WIDES:
            plain = ((0, (1,) * wide), (1, (0,) * wide))
            for state in (0, 1):
                for good in (0, 1):
                    self.tells(is_machine, changed(plain, state, good, (1,) * wide), wide, True)
                for good in (2, 3, -1, True, False, None, "", "1", (), (1,), [], [0]):
                    self.tells(is_machine, changed(plain, state, good, (1,) * wide), wide, False)

    def test_other_things_in_the_place_of_a_step(self):
        for wide in WIDES:
            plain = ((0, (1,) * wide), (1, (0,) * wide))
            for state in (0, 1):
                for place in range(wide):
                    for to in (True, False, None, "", "0", (), (0,), [], [0]):
                        steps = (0,) * place + (to,) + (0,) * (wide - place - 1)
                        self.tells(is_machine, changed(plain, state, 0, steps), wide, False)

    def test_other_things_in_the_place_of_steps(self):
        for wide in WIDES:
            plain = ((0, (1,) * wide), (1, (0,) * wide))
            for state in (0, 1):
                for steps in ([0] * wide, "0" * wide, 0, 1, wide, True, False, None, "", [], ((0,) * wide,)):
                    self.tells(is_machine, changed(plain, state, 0, steps), wide, False)

    def test_other_things_in_the_place_of_a_state(self):
        for wide in WIDES:
            steps = (0,) * wide
            for state in (0, 1, True, None, "", "ab", (), (0,), (steps,), (steps, 0), (0, steps, 0), (0, steps, steps),
                          [0, steps], [], steps, [(0, steps)], ((0, steps),), (0,) + steps):
                for machine in ((state,), (state, (0, steps)), ((0, steps), state)):
                    self.tells(is_machine, machine, wide, False)

    def test_other_things_in_the_place_of_a_machine(self):
        for wide in WIDES:
            state = (0, (0,) * wide)
            for thing in (0, 1, -1, True, False, None, "", "a", [], [state], state, (0,), ("any",), ("letter", 0)):
                self.tells(is_machine, thing, wide, False)

    def test_deep_things(self):
        for wide in WIDES:
            steps = (0,) * wide
            for thing in deep_things():
                for machine in (thing, (thing,), ((0, steps), thing), ((thing, steps),), ((0, thing),),
                                ((0, (thing,) * wide),)):
                    self.tells(is_machine, machine, wide, False)


class Unchanged(unittest.TestCase):
    def test_what_is_handed_in_stays_and_is_told_the_same_again(self):
        things = [[0, 0], [0, [0]], ("not", ["any"]), ["not", ["any"]], [[0, [0]]], ((0, [0]),), ("then", ("any",), []),
                  (0, 0), ("not", ("any",)), ((0, (0,)),)]
        for ask in (is_word, is_pattern, is_machine):
            for wide in WIDES:
                for thing in things:
                    before = repr(thing)
                    answer = ask(thing, wide)
                    self.assertEqual(repr(thing), before)
                    self.assertIs(ask(thing, wide), answer)

    def test_no_answer_hangs_on_what_was_asked_before(self):
        # 0 and False, 1 and True are equal to Python: an answer that is kept must not be given to the other.
        pairs = [(is_word, (0, 1), (False, True)), (is_pattern, ("letter", 1), ("letter", True)),
                 (is_machine, ((1, (0, 0)),), ((True, (0, 0)),)), (is_machine, ((0, (0, 0)),), ((0, (0, False)),))]
        for ask, thing, other in pairs:
            for _ in range(2):
                self.assertIs(ask(thing, 2), True)
                self.assertIs(ask(other, 2), False)
        for _ in range(2):
            self.assertIs(is_word((1,), 1), False)
            self.assertIs(is_word((1,), 2), True)
            self.assertIs(is_pattern(("letter", 2), 2), False)
            self.assertIs(is_pattern(("letter", 2), 3), True)
            self.assertIs(is_machine(((0, (0,)),), 2), False)
            self.assertIs(is_machine(((0, (0,)),), 1), True)


if __name__ == "__main__":
    unittest.main()

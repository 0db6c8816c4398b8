import itertools
import reprlib
import unittest

from reckoning import MachineCase, has_least_form, state_behind, words_had, words_up_to
from samples import (WIDES, all_machines, deep_things, each_word, empty_word_alone, long_chain, no_word, renumbered,
                     several_machines, some_machines)
from wordyard.machines import behind, has, is_least, least

# The words with an even number of the letter 0; those that end with letter 1; those of at most one letter.
EVEN = ((1, (1, 0)), (0, (0, 1)))
ENDING = ((0, (0, 1)), (1, (0, 1)))
SHORT = ((1, (1, 1)), (1, (2, 2)), (0, (2, 2)))

# Groups of states that read alike are found by parting groups; here a group parts itself midway.
SELF_PARTING = [
    (3, ((1, (4, 1, 0)), (0, (6, 5, 6)), (0, (6, 6, 3)), (0, (3, 3, 6)), (1, (6, 5, 5)), (1, (5, 0, 3)),
         (0, (2, 6, 5)))),
    (3, ((0, (4, 1, 1)), (1, (1, 5, 1)), (1, (5, 0, 0)), (0, (2, 5, 3)), (1, (2, 5, 4)), (0, (2, 3, 1)),
         (0, (5, 2, 5)))),
    (3, ((0, (4, 6, 1)), (1, (4, 5, 0)), (1, (1, 4, 6)), (1, (6, 5, 3)), (1, (2, 4, 0)), (1, (2, 4, 0)),
         (1, (3, 4, 4)))),
    (2, ((1, (5, 1)), (1, (0, 3)), (1, (4, 1)), (0, (0, 3)), (1, (4, 1)), (1, (0, 2)), (1, (5, 4)), (1, (0, 5)))),
    (2, ((1, (4, 6)), (1, (3, 5)), (1, (0, 5)), (1, (3, 5)), (1, (4, 4)), (0, (7, 4)), (1, (6, 3)), (1, (7, 3)))),
]


class Reading(unittest.TestCase):
    def test_behind(self):
        self.assertEqual(behind(EVEN, 0, ()), 0)
        self.assertEqual(behind(EVEN, 1, ()), 1)
        self.assertEqual(behind(EVEN, 0, (0,)), 1)
        self.assertEqual(behind(EVEN, 0, (0, 1, 1, 0, 0)), 1)
        self.assertEqual(behind(EVEN, 1, (0, 1, 1, 0, 0)), 0)
        self.assertEqual(behind(SHORT, 0, (1, 0)), 2)
        self.assertEqual(behind(SHORT, 1, (1,)), 2)
        three = ((0, (1, 2, 0)), (1, (0, 0, 2)), (0, (2, 1, 0)))
        self.assertEqual(behind(three, 0, (0, 2, 1)), 1)
        self.assertEqual(behind(three, 2, (0, 0, 2, 1)), 2)

    def test_the_empty_word_from_each_state(self):
        for wide in WIDES:
            for machine in several_machines(wide):
                for state in range(len(machine)):
                    self.assertEqual(behind(machine, state, ()), state)

    def test_each_word_from_each_state(self):
        for wide in WIDES:
            words = words_up_to(wide, 4)
            for machine in several_machines(wide)[::3]:
                for state in range(len(machine)):
                    for word in words:
                        told = behind(machine, state, word)
                        self.assertIs(type(told), int)
                        self.assertEqual(told, state_behind(machine, state, word))

    def test_words_cut_in_two(self):
        for wide in WIDES:
            words = words_up_to(wide, 4)[::3]
            for machine in several_machines(wide)[::7]:
                for state in range(len(machine)):
                    for word in words:
                        for cut in range(len(word) + 1):
                            between = behind(machine, state, word[:cut])
                            self.assertEqual(behind(machine, between, word[cut:]), behind(machine, state, word))

    def test_has(self):
        for word, answers in (((), (True, False, True)), ((0,), (False, False, True)), ((1,), (True, True, True)),
                              ((0, 1), (False, True, False)), ((0, 1, 0), (True, False, False))):
            self.assertIs(has(EVEN, word), answers[0])
            self.assertIs(has(ENDING, word), answers[1])
            self.assertIs(has(SHORT, word), answers[2])

    def test_has_by_the_state_behind_the_word(self):
        for wide in WIDES:
            words = words_up_to(wide, 4)
            for machine in several_machines(wide)[::3]:
                for word in words:
                    good, steps = machine[state_behind(machine, 0, word)]
                    self.assertIs(has(machine, word), good == 1)

    def test_one_state_good_or_not(self):
        for wide in WIDES:
            for word in words_up_to(wide, 5):
                self.assertIs(has(each_word(wide), word), True)
                self.assertIs(has(no_word(wide), word), False)
                self.assertEqual(behind(each_word(wide), 0, word), 0)

    def test_all_states_good_or_none(self):
        for wide in WIDES:
            for good in (0, 1):
                for machine in some_machines(wide, 4, 20):
                    machine = tuple((good, steps) for _, steps in machine)
                    for word in words_up_to(wide, 3):
                        self.assertIs(has(machine, word), good == 1)

    def test_the_empty_word(self):
        for wide in WIDES:
            for machine in several_machines(wide):
                self.assertIs(has(machine, ()), machine[0][0] == 1)

    def test_a_long_word(self):
        self.assertIs(has(EVEN, (0, 1) * 5000), True)
        self.assertIs(has(EVEN, (0, 1) * 5001), False)
        self.assertEqual(behind(long_chain(3000), 5, (0,) * 2000), 2005)


class Least(MachineCase):
    def test_examples(self):
        self.assertEqual(least(((0, (1,)), (0, (0,)))), ((0, (0,)),))
        self.assertEqual(least(((1, (1, 1)), (1, (0, 1)))), ((1, (0, 0)),))
        # A state that is not come to.
        self.assertEqual(least(((0, (2, 0)), (1, (1, 0)), (1, (2, 2)))), ((0, (1, 0)), (1, (1, 1))))
        # Two states that read alike.
        self.assertEqual(least(((0, (1, 2)), (1, (0, 2)), (1, (0, 1)))), ((0, (1, 1)), (1, (0, 1))))
        # The states in another order.
        self.assertEqual(least(((0, (2, 1)), (1, (1, 1)), (0, (2, 2)))), ((0, (1, 2)), (0, (1, 1)), (1, (2, 2))))

    def test_least_machines_stay(self):
        for machine in (EVEN, ENDING, SHORT):
            self.assertEqual(least(machine), machine)
        for wide in WIDES:
            for machine in (no_word(wide), each_word(wide), empty_word_alone(wide)):
                self.assertEqual(least(machine), machine)

    def test_the_same_words_and_least(self):
        for wide in WIDES:
            size = (12, 7, 5)[wide - 1]
            for machine in several_machines(wide):
                self.is_told(least(machine), wide, size, words_had(machine, wide, size), machine)

    def test_groups_that_part_themselves(self):
        for wide, machine in SELF_PARTING:
            # From each state on, so that all of them count.
            for state in range(len(machine)):
                places = [(k - state) % len(machine) for k in range(len(machine))]
                turned = renumbered(machine, places)
                self.is_told(least(turned), wide, 5, words_had(turned, wide, 5), turned)

    def test_all_machines_of_three_states(self):
        for machine in all_machines(1, 3):
            self.is_told(least(machine), 1, 6, words_had(machine, 1, 6), machine)
        for machine in itertools.islice(all_machines(2, 3), 0, None, 5):
            self.is_told(least(machine), 2, 4, words_had(machine, 2, 4), machine)

    def test_machines_with_the_same_words_have_the_same_least_one(self):
        for wide in WIDES:
            by_words = {}
            for machine in several_machines(wide):
                if len(machine) <= 3:
                    words = frozenset(words_had(machine, wide, 4))
                    self.assertEqual(by_words.setdefault(words, least(machine)), least(machine), machine)

    def test_of_a_least_machine_it_is_itself(self):
        for wide in WIDES:
            for machine in several_machines(wide):
                told = least(machine)
                self.assertEqual(least(told), told)

    def test_states_numbered_anew(self):
        for wide in WIDES:
            for machine in some_machines(wide, 4, 40):
                for places in itertools.permutations(range(1, 4)):
                    self.assertEqual(least(renumbered(machine, (0,) + places)), least(machine))

    def test_more_states_that_are_not_come_to(self):
        for wide in WIDES:
            for machine in some_machines(wide, 3, 40):
                for good in (0, 1):
                    more = machine + ((good, (4,) * wide), (1 - good, (0, 3, 4)[:wide]))
                    self.assertEqual(least(more), least(machine))

    def test_each_state_twice(self):
        for wide in WIDES:
            for machine in some_machines(wide, 4, 40):
                # Every other step goes to the second one of the two states that read alike.
                doubled = []
                for turn in (0, 1):
                    for good, steps in machine:
                        doubled.append((good, tuple(step + 4 * ((turn + k) % 2) for k, step in enumerate(steps))))
                self.assertEqual(least(tuple(doubled)), least(machine))

    def test_all_states_good_or_none(self):
        for wide in WIDES:
            for machine in some_machines(wide, 5, 20):
                self.assertEqual(least(tuple((1, steps) for _, steps in machine)), each_word(wide))
                self.assertEqual(least(tuple((0, steps) for _, steps in machine)), no_word(wide))

    def test_many_states(self):
        chain = long_chain(3000)
        self.assertEqual(least(chain), chain)
        places = [0] + list(range(2999, 0, -1))
        self.assertEqual(least(renumbered(chain, places)), chain)
        ring = tuple((1 if k % 30 == 7 else 0, ((k + 1) % 3000,)) for k in range(3000))
        self.assertEqual(least(ring), tuple((1 if k == 7 else 0, ((k + 1) % 30,)) for k in range(30)))

    def test_asked_again(self):
        for wide in WIDES:
            for machine in some_machines(wide, 5, 20):
                before = repr(machine)
                told = least(machine)
                self.assertEqual(repr(least(machine)), repr(told))
                self.assertEqual(repr(machine), before)


class IsLeast(unittest.TestCase):
    def tells(self, thing, wide, answer):
        self.assertIs(is_least(thing, wide), answer, reprlib.repr((thing, wide)))

    def test_examples(self):
        for machine in (EVEN, ENDING, SHORT):
            self.tells(machine, 2, True)
            self.tells(machine, 1, False)
            self.tells(machine, 3, False)
        for wide in WIDES:
            for machine in (no_word(wide), each_word(wide), empty_word_alone(wide)):
                for other in WIDES:
                    self.tells(machine, other, wide == other)

    def test_two_states_that_read_alike(self):
        self.tells(((0, (1,)), (0, (0,))), 1, False)
        self.tells(((1, (1, 1)), (1, (0, 1))), 2, False)
        self.tells(((0, (1, 2)), (1, (0, 2)), (1, (0, 1))), 2, False)

    def test_states_in_another_order(self):
        self.tells(((0, (1, 2)), (0, (1, 1)), (1, (2, 2))), 2, True)
        self.tells(((0, (2, 1)), (1, (1, 1)), (0, (2, 2))), 2, False)
        three = ((0, (1, 0, 2)), (1, (3, 1, 1)), (1, (2, 2, 0)), (0, (0, 3, 3)))
        self.tells(three, 3, True)
        for places in itertools.permutations(range(1, 4)):
            self.tells(renumbered(three, (0,) + places), 3, places == (1, 2, 3))

    def test_the_order_goes_by_states_and_then_by_letters(self):
        # State 0 steps to 1 and 2, state 1 to 3 and 4, state 2 to 5; all words from them on differ.
        machine = ((0, (1, 2)), (0, (3, 4)), (0, (5, 5)), (1, (3, 0)), (1, (0, 0)), (1, (5, 5)))
        self.tells(machine, 2, True)
        for one, other in itertools.combinations(range(1, 6), 2):
            places = list(range(6))
            places[one], places[other] = other, one
            self.tells(renumbered(machine, places), 2, False)

    def test_states_that_are_not_come_to(self):
        self.tells(((0, (0,)), (1, (0,))), 1, False)
        self.tells(((0, (0,)), (1, (1,))), 1, False)
        self.tells(((0, (1, 1)), (1, (0, 0)), (1, (2, 0))), 2, False)
        self.tells(((1, (0, 0, 0)), (0, (0, 1, 0))), 3, False)

    def test_each_machine(self):
        for wide in WIDES:
            for machine in several_machines(wide):
                self.tells(machine, wide, has_least_form(machine))
                self.tells(least(machine), wide, True)
        for machine in all_machines(2, 3):
            self.tells(machine, 2, has_least_form(machine))

    def test_each_machine_by_its_words(self):
        # Two states of three that differ do so by a word of at most one letter; all that is come to is come to by two.
        for machine in itertools.islice(all_machines(2, 3), 0, None, 3):
            met = []
            for word in words_up_to(2, 2):
                state = state_behind(machine, 0, word)
                if state not in met:
                    met.append(state)
            had = set()
            for state in range(3):
                had.add(tuple(machine[state_behind(machine, state, word)][0] for word in words_up_to(2, 1)))
            self.tells(machine, 2, met == [0, 1, 2] and len(had) == 3)

    def test_truths_are_no_numbers(self):
        for wide in WIDES:
            self.tells(((True, (0,) * wide),), wide, False)
            self.tells(((False, (0,) * wide),), wide, False)
            self.tells(((1, (False,) * wide),), wide, False)
            self.tells(((1, (1,) * wide), (False, (1,) * wide)), wide, False)
            self.tells(((True, (1,) * wide), (0, (1,) * wide)), wide, False)
            for place in range(wide):
                for truth in (True, False):
                    steps = (1,) * place + (truth,) + (1,) * (wide - place - 1)
                    self.tells(((1, steps), (0, (1,) * wide)), wide, False)
                    self.tells(((1, (1,) * wide), (0, steps)), wide, False)

    def test_lists_are_no_tuples(self):
        self.tells([(1, (1, 0)), (0, (0, 1))], 2, False)
        self.tells(([1, (1, 0)], (0, (0, 1))), 2, False)
        self.tells(((1, (1, 0)), [0, (0, 1)]), 2, False)
        self.tells(((1, [1, 0]), (0, (0, 1))), 2, False)
        self.tells(((1, (1, 0)), (0, [0, 1])), 2, False)
        self.tells([[1, [1, 0]], [0, [0, 1]]], 2, False)

    def test_no_machines(self):
        for wide in WIDES:
            steps = (0,) * wide
            for thing in (0, 1, -1, 7, True, False, None, "", "a", "none", (), [], (0,), (0, steps), ((),), ((0,),),
                          ((steps, 0),), ((0, steps, 0),), ((2, steps),), ((-1, steps),), ((None, steps),),
                          (("1", steps),), (((1,), steps),), (([], steps),), ((1, steps + (0,)),), ((1, steps[1:]),),
                          ((1, (1,) * wide),), ((1, (-1,) * wide),), ((1, (None,) * wide),), ((1, ("0",) * wide),),
                          ((1, ((),) * wide),), ((1, ([],) * wide),), ((1, 0),), ((1, None),), ((1, "0" * wide),),
                          ((1, (1,) * wide), None), ((1, (1,) * wide), (0, (2,) * wide)), ("any",), ("letter", 0),
                          ((0, steps), 0), (None, (0, steps))):
                self.tells(thing, wide, False)

    def test_deep_things(self):
        for wide in WIDES:
            steps = (0,) * wide
            for thing in deep_things():
                for machine in (thing, [thing], (thing,), ((0, steps), thing), ((thing, steps),), ((0, thing),),
                                ((0, (thing,) * wide),), (0, thing)):
                    self.tells(machine, wide, False)

    def test_what_is_handed_in_stays_and_is_told_the_same_again(self):
        for thing in (((1, (1, 0)), (0, (0, 1))), [(1, [1, 0]), [0, (0, 1)]], ((0, (0, 0)), (1, (0, 1))), [[], [0]]):
            before = repr(thing)
            answer = is_least(thing, 2)
            self.assertEqual(repr(thing), before)
            self.assertIs(is_least(thing, 2), answer)

    def test_no_answer_hangs_on_what_was_asked_before(self):
        for _ in range(2):
            self.tells(((1, (0, 0)),), 2, True)
            self.tells(((True, (0, 0)),), 2, False)
            self.tells(((1, (0, False)),), 2, False)
            self.tells(((1, (0, 0)),), 1, False)


if __name__ == "__main__":
    unittest.main()

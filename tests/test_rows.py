import itertools
import unittest

from reckoning import MachineCase, any_number, one_behind_the_other, words_had, words_up_to
from samples import WIDES, all_machines, each_word, empty_word_alone, no_word, renumbered, ring, some_machines
from wordyard.machines import least
from wordyard.rows import backward, joined, repeated

# Up to this length words are compared, by the number of letters.
SIZES = {1: 14, 2: 7, 3: 5}

# Letter 0 alone; the words of letter 0, at least one; those that end with letter 1.
ZERO = ((0, (1, 2)), (1, (2, 2)), (0, (2, 2)))
ZEROS = ((0, (1, 2)), (1, (1, 2)), (0, (2, 2)))
ENDING = ((0, (0, 1)), (1, (0, 1)))


class Joined(MachineCase):
    def is_joined(self, one, other, wide):
        size = SIZES[wide]
        words = one_behind_the_other(words_had(one, wide, size), words_had(other, wide, size), size)
        self.is_told(joined(one, other, wide), wide, size, words, (one, other))

    def test_examples(self):
        self.assertEqual(joined(ZERO, ZERO, 2), ((0, (1, 2)), (0, (3, 2)), (0, (2, 2)), (1, (2, 2))))
        self.assertEqual(joined(each_word(2), ZERO, 2), ((0, (1, 0)), (1, (1, 0))))
        self.assertEqual(joined(ZERO, each_word(2), 2), ((0, (1, 2)), (1, (1, 1)), (0, (2, 2))))
        self.assertEqual(joined(ENDING, ZEROS, 2), ((0, (0, 1)), (0, (2, 1)), (1, (2, 1))))

    def test_all_pairs_of_small_machines(self):
        for one, other in itertools.product(list(all_machines(1, 1)) + list(all_machines(1, 2)), repeat=2):
            self.is_joined(one, other, 1)
        for one, other in itertools.product(list(all_machines(2, 2))[::2], repeat=2):
            self.is_joined(one, other, 2)

    def test_pairs_of_larger_machines(self):
        for wide in WIDES:
            for states in (2, 3, 4):
                for one, other in zip(some_machines(wide, states, 20), some_machines(wide, 6 - states, 20)):
                    self.is_joined(one, other, wide)

    def test_with_no_word(self):
        for wide in WIDES:
            for machine in some_machines(wide, 4, 20) + [no_word(wide), each_word(wide), empty_word_alone(wide)]:
                self.assertEqual(joined(machine, no_word(wide), wide), no_word(wide))
                self.assertEqual(joined(no_word(wide), machine, wide), no_word(wide))

    def test_with_the_empty_word_alone(self):
        for wide in WIDES:
            for machine in some_machines(wide, 4, 20) + [no_word(wide), each_word(wide), empty_word_alone(wide)]:
                self.assertEqual(joined(machine, empty_word_alone(wide), wide), least(machine))
                self.assertEqual(joined(empty_word_alone(wide), machine, wide), least(machine))

    def test_with_each_word(self):
        for wide in WIDES:
            self.assertEqual(joined(each_word(wide), each_word(wide), wide), each_word(wide))
            for machine in some_machines(wide, 4, 20):
                self.is_joined(machine, each_word(wide), wide)
                self.is_joined(each_word(wide), machine, wide)

    def test_three_behind_one_another(self):
        for wide in WIDES:
            rows = [some_machines(wide, 3, 10)] + [some_machines(wide, 3, 20)[10:]] + [some_machines(wide, 2, 10)]
            for one, two, three in zip(*rows):
                self.assertEqual(joined(joined(one, two, wide), three, wide), joined(one, joined(two, three, wide), wide))

    def test_it_does_not_matter_whether_what_is_handed_in_is_least(self):
        for wide in WIDES:
            for one, other in zip(some_machines(wide, 3, 20), some_machines(wide, 4, 20)):
                told = joined(one, other, wide)
                self.assertEqual(joined(least(one), least(other), wide), told)
                self.assertEqual(joined(renumbered(one, (0, 2, 1)), renumbered(other, (0, 3, 1, 2)), wide), told)
                self.assertEqual(joined(one + ((1, (0,) * wide),), other + ((1, (4,) * wide),), wide), told)

    def test_many_states_that_read_alike(self):
        # If it were not made least first, far too many sets of states would come up.
        alike = tuple((1, ((2 * k + 1) % 101, (3 * k + 2) % 101)) for k in range(101))
        self.assertEqual(joined(alike, alike, 2), each_word(2))
        self.assertEqual(repeated(alike, 2), each_word(2))
        self.assertEqual(backward(alike, 2), each_word(2))

    def test_far_more_sets_of_states_than_are_needed(self):
        # Letter 0 at some place, and behind it at least forty letters.
        behind_zero = ((0, (1, 42)),) + tuple((0, (k + 2, k + 2)) for k in range(40)) + ((1, (41, 41)), (0, (42, 42)))
        somewhere = ((0, (1, 0)),) + tuple((0, (k + 2, k + 2)) for k in range(40)) + ((1, (41, 41)),)
        self.assertEqual(joined(each_word(2), behind_zero, 2), somewhere)

    def test_many_states_none_of_which_has_all_words_of_another(self):
        self.assertEqual(joined(ring(7, (0,)), ring(301, (0,)), 1), ring(7, (0,)))
        self.assertEqual(joined(ring(301, (5,)), ring(301, (7,)), 1), ring(301, (12,)))

    def test_asked_again(self):
        for wide in WIDES:
            for one, other in zip(some_machines(wide, 3, 10), some_machines(wide, 4, 10)):
                before = repr((one, other))
                self.assertEqual(repr(joined(one, other, wide)), repr(joined(one, other, wide)))
                self.assertEqual(repr((one, other)), before)


class Repeated(MachineCase):
    def is_repeated(self, machine, wide):
        size = SIZES[wide]
        words = any_number(words_had(machine, wide, size), size)
        self.is_told(repeated(machine, wide), wide, size, words, machine)

    def test_examples(self):
        self.assertEqual(repeated(ZERO, 2), ((1, (0, 1)), (0, (1, 1))))
        self.assertEqual(repeated(ZEROS, 2), ((1, (0, 1)), (0, (1, 1))))
        self.assertEqual(repeated(ENDING, 2), ((1, (1, 0)), (0, (1, 0))))
        # Words of two and of three letters: any number but one.
        self.assertEqual(repeated(((0, (1,)), (0, (2,)), (1, (3,)), (1, (4,)), (0, (4,))), 1),
                         ((1, (1,)), (0, (2,)), (1, (2,))))

    def test_all_small_machines(self):
        for wide in WIDES:
            for states in (1, 2):
                for machine in all_machines(wide, states):
                    self.is_repeated(machine, wide)

    def test_larger_machines(self):
        for wide in WIDES:
            for states in (3, 4, 5):
                for machine in some_machines(wide, states, 30):
                    self.is_repeated(machine, wide)

    def test_a_start_that_is_come_to_again(self):
        # State 0 is not good, but words lead back to it: only the empty one is good there.
        machine = ((0, (0, 1)), (1, (0, 0)))
        self.is_repeated(machine, 2)
        self.is_repeated(((0, (1,)), (0, (2,)), (1, (0,))), 1)

    def test_edges(self):
        for wide in WIDES:
            self.assertEqual(repeated(no_word(wide), wide), empty_word_alone(wide))
            self.assertEqual(repeated(empty_word_alone(wide), wide), empty_word_alone(wide))
            self.assertEqual(repeated(each_word(wide), wide), each_word(wide))
            one_letter = ((0, (1,) * wide), (1, (2,) * wide), (0, (2,) * wide))
            self.assertEqual(repeated(one_letter, wide), each_word(wide))

    def test_many_states_none_of_which_has_all_words_of_another(self):
        self.assertEqual(repeated(ring(301, (1, 5, 150)), 1), each_word(1))
        self.assertEqual(repeated(ring(301, (0,)), 1), ring(301, (0,)))
        self.assertEqual(repeated(ring(300, (30,)), 1), ring(30, (0,)))

    def test_repeated_twice(self):
        for wide in WIDES:
            for machine in some_machines(wide, 3, 30):
                once = repeated(machine, wide)
                self.assertEqual(repeated(once, wide), once)
                self.assertEqual(joined(once, once, wide), once)

    def test_it_does_not_matter_whether_what_is_handed_in_is_least(self):
        for wide in WIDES:
            for machine in some_machines(wide, 4, 30):
                told = repeated(machine, wide)
                self.assertEqual(repeated(least(machine), wide), told)
                self.assertEqual(repeated(renumbered(machine, (0, 3, 1, 2)), wide), told)
                self.assertEqual(repeated(machine + ((1, (0,) * wide),), wide), told)

    def test_asked_again(self):
        for wide in WIDES:
            for machine in some_machines(wide, 4, 10):
                before = repr(machine)
                self.assertEqual(repr(repeated(machine, wide)), repr(repeated(machine, wide)))
                self.assertEqual(repr(machine), before)


class Backward(MachineCase):
    def is_backward(self, machine, wide):
        size = SIZES[wide]
        words = {word[::-1] for word in words_had(machine, wide, size)}
        self.is_told(backward(machine, wide), wide, size, words, machine)

    def test_examples(self):
        self.assertEqual(backward(ENDING, 2), ((0, (1, 2)), (0, (1, 1)), (1, (2, 2))))
        self.assertEqual(backward(((0, (1, 2)), (0, (1, 1)), (1, (2, 2))), 2), ENDING)
        self.assertEqual(backward(ZERO, 2), ZERO)

    def test_a_word_is_turned_about(self):
        # The word 0 1 2 alone, and the word 2 1 0 alone.
        one = ((0, (1, 2, 2)), (0, (2, 3, 2)), (0, (2, 2, 2)), (0, (2, 2, 4)), (1, (2, 2, 2)))
        other = ((0, (1, 1, 2)), (0, (1, 1, 1)), (0, (1, 3, 1)), (0, (4, 1, 1)), (1, (1, 1, 1)))
        self.assertEqual(backward(one, 3), other)
        self.assertEqual(backward(other, 3), one)

    def test_all_small_machines(self):
        for wide in WIDES:
            for states in (1, 2):
                for machine in all_machines(wide, states):
                    self.is_backward(machine, wide)

    def test_larger_machines(self):
        for wide in WIDES:
            for states in (3, 4, 5):
                for machine in some_machines(wide, states, 30):
                    self.is_backward(machine, wide)

    def test_edges(self):
        for wide in WIDES:
            for machine in (no_word(wide), each_word(wide), empty_word_alone(wide)):
                self.assertEqual(backward(machine, wide), machine)
            none_good = ((0, (1,) * wide), (0, (2,) * wide), (0, (0,) * wide))
            self.assertEqual(backward(none_good, wide), no_word(wide))
            not_come_to = ((0, (0,) * wide), (1, (0,) * wide))
            self.assertEqual(backward(not_come_to, wide), no_word(wide))
            all_good = tuple((1, steps) for _, steps in none_good)
            self.assertEqual(backward(all_good, wide), each_word(wide))

    def test_backward_twice(self):
        for wide in WIDES:
            for machine in some_machines(wide, 5, 30):
                self.assertEqual(backward(backward(machine, wide), wide), least(machine))

    def test_one_letter_reads_the_same_backward(self):
        for machine in some_machines(1, 6, 40):
            self.assertEqual(backward(machine, 1), least(machine))

    def test_words_behind_one_another_are_turned_about(self):
        for wide in WIDES:
            for one, other in zip(some_machines(wide, 3, 15), some_machines(wide, 2, 15)):
                self.assertEqual(backward(joined(one, other, wide), wide),
                                 joined(backward(other, wide), backward(one, wide), wide))

    def test_it_does_not_matter_whether_what_is_handed_in_is_least(self):
        for wide in WIDES:
            for machine in some_machines(wide, 4, 30):
                told = backward(machine, wide)
                self.assertEqual(backward(least(machine), wide), told)
                self.assertEqual(backward(renumbered(machine, (0, 3, 1, 2)), wide), told)
                self.assertEqual(backward(machine + ((1, (0,) * wide),), wide), told)

    def test_asked_again(self):
        for wide in WIDES:
            for machine in some_machines(wide, 4, 10):
                before = repr(machine)
                self.assertEqual(repr(backward(machine, wide)), repr(backward(machine, wide)))
                self.assertEqual(repr(machine), before)


class Reckoned(unittest.TestCase):
    def test_the_reckoning_itself(self):
        self.assertEqual(any_number({(0,)}, 3), {(), (0,), (0, 0), (0, 0, 0)})
        self.assertEqual(any_number(set(), 3), {()})
        self.assertEqual(one_behind_the_other({(0,), ()}, {(1,)}, 2), {(0, 1), (1,)})
        self.assertEqual(words_up_to(2, 1), [(), (0,), (1,)])


if __name__ == "__main__":
    unittest.main()

import itertools
import unittest

from reckoning import MachineCase, words_had, words_up_to
from samples import WIDES, all_machines, each_word, empty_word_alone, no_word, renumbered, some_machines
from wordyard.machines import least
from wordyard.pairs import apart, both, either, turned_out

# Up to this length words are compared, by the number of letters.
SIZES = {1: 14, 2: 6, 3: 4}

# What each function has of two sets of words.
MEANINGS = [
    (both, lambda one, other: one & other),
    (either, lambda one, other: one | other),
    (apart, lambda one, other: one ^ other),
]


def edge_machines(wide):
    all_alike = ((1, (1,) * wide), (1, (0,) * wide))
    none_good = ((0, (1,) * wide), (0, (0,) * wide))
    even_length = ((1, (1,) * wide), (0, (0,) * wide))
    return [no_word(wide), each_word(wide), empty_word_alone(wide), all_alike, none_good, even_length]


class Pairs(MachineCase):
    def all_are_told(self, one, other, wide):
        size = SIZES[wide]
        for ask, meaning in MEANINGS:
            words = meaning(words_had(one, wide, size), words_had(other, wide, size))
            self.is_told(ask(one, other), wide, size, words, (ask, one, other))

    def test_examples(self):
        # An even number of the letter 0; those that end with letter 1.
        even = ((1, (1, 0)), (0, (0, 1)))
        ending = ((0, (0, 1)), (1, (0, 1)))
        self.assertEqual(both(even, ending), ((0, (1, 2)), (0, (0, 1)), (1, (1, 2))))
        self.assertEqual(either(even, ending), ((1, (1, 0)), (0, (0, 2)), (1, (0, 2))))
        self.assertEqual(apart(even, even), ((0, (0, 0)),))
        self.assertEqual(apart(even, turned_out(even)), ((1, (0, 0)),))
        self.assertEqual(turned_out(even), ((0, (1, 0)), (1, (0, 1))))

    def test_all_pairs_of_small_machines(self):
        for one, other in itertools.product(list(all_machines(1, 1)) + list(all_machines(1, 2)), repeat=2):
            self.all_are_told(one, other, 1)
        for one, other in itertools.product(list(all_machines(2, 2))[::3], repeat=2):
            self.all_are_told(one, other, 2)

    def test_pairs_of_larger_machines(self):
        for wide in WIDES:
            for states in (3, 4, 5):
                machines = some_machines(wide, states, 24)
                others = some_machines(wide, 8 - states, 24)
                for one, other in zip(machines, others):
                    self.all_are_told(one, other, wide)

    def test_edges(self):
        for wide in WIDES:
            edges = edge_machines(wide)
            for one, other in itertools.product(edges, repeat=2):
                self.all_are_told(one, other, wide)
            for one, other in itertools.product(edges, some_machines(wide, 4, 10)):
                self.all_are_told(one, other, wide)
                self.all_are_told(other, one, wide)

    def test_with_no_word_with_each_word_and_with_itself(self):
        for wide in WIDES:
            for machine in some_machines(wide, 5, 20):
                self.assertEqual(both(machine, no_word(wide)), no_word(wide))
                self.assertEqual(both(machine, each_word(wide)), least(machine))
                self.assertEqual(either(machine, no_word(wide)), least(machine))
                self.assertEqual(either(machine, each_word(wide)), each_word(wide))
                self.assertEqual(apart(machine, no_word(wide)), least(machine))
                self.assertEqual(apart(machine, each_word(wide)), turned_out(machine))
                self.assertEqual(both(machine, machine), least(machine))
                self.assertEqual(either(machine, machine), least(machine))
                self.assertEqual(apart(machine, machine), no_word(wide))

    def test_it_does_not_matter_whether_what_is_handed_in_is_least(self):
        for wide in WIDES:
            for one, other in zip(some_machines(wide, 4, 20), some_machines(wide, 3, 20)):
                for ask, meaning in MEANINGS:
                    told = ask(one, other)
                    self.assertEqual(ask(least(one), least(other)), told)
                    self.assertEqual(ask(renumbered(one, (0, 3, 1, 2)), renumbered(other, (0, 2, 1))), told)
                    self.assertEqual(ask(one + ((1, (4,) * wide),), other + ((0, (0,) * wide),)), told)

    def test_rings_of_different_lengths(self):
        def ring(states):
            return tuple((1 if k == 0 else 0, ((k + 1) % states,)) for k in range(states))
        self.assertEqual(both(ring(29), ring(31)), ring(29 * 31))
        self.assertEqual(both(ring(12), ring(18)), ring(36))
        self.assertEqual(either(ring(4), ring(2)), ring(2))

    def test_asked_again(self):
        for wide in WIDES:
            for one, other in zip(some_machines(wide, 4, 10), some_machines(wide, 3, 10)):
                before = repr((one, other))
                for ask, meaning in MEANINGS:
                    self.assertEqual(repr(ask(one, other)), repr(ask(one, other)))
                    self.assertEqual(repr((one, other)), before)


class TurnedOut(MachineCase):
    def is_turned_out(self, machine, wide):
        size = SIZES[wide]
        words = set(words_up_to(wide, size)) - words_had(machine, wide, size)
        self.is_told(turned_out(machine), wide, size, words, machine)

    def test_all_small_machines(self):
        for wide in WIDES:
            for states in (1, 2):
                for machine in all_machines(wide, states):
                    self.is_turned_out(machine, wide)

    def test_larger_machines(self):
        for wide in WIDES:
            for states in (3, 4, 5, 6):
                for machine in some_machines(wide, states, 30):
                    self.is_turned_out(machine, wide)

    def test_edges(self):
        for wide in WIDES:
            self.assertEqual(turned_out(no_word(wide)), each_word(wide))
            self.assertEqual(turned_out(each_word(wide)), no_word(wide))
            self.assertEqual(turned_out(empty_word_alone(wide)), ((0, (1,) * wide), (1, (1,) * wide)))
            for machine in edge_machines(wide):
                self.is_turned_out(machine, wide)

    def test_turned_out_twice(self):
        for wide in WIDES:
            for machine in some_machines(wide, 5, 30):
                self.assertEqual(turned_out(turned_out(machine)), least(machine))

    def test_asked_again(self):
        for wide in WIDES:
            for machine in some_machines(wide, 4, 10):
                before = repr(machine)
                self.assertEqual(repr(turned_out(machine)), repr(turned_out(machine)))
                self.assertEqual(repr(machine), before)


if __name__ == "__main__":
    unittest.main()

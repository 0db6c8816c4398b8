import itertools
import unittest

from reckoning import MachineCase, is_plain_word, owns, words_had, words_up_to
from samples import (WIDES, all_machines, each_word, empty_word_alone, long_chain, no_word, otherwise_told, ring,
                     several_machines, some_finite_machines, some_machines)
from wordyard.machines import least
from wordyard.pairs import both, either, turned_out
from wordyard.telling import cut, first_word, heads, lies_in, longest, parting

# The words with an even number of the letter 0; those that end with letter 1; those of at most one letter.
EVEN = ((1, (1, 0)), (0, (0, 1)))
ENDING = ((0, (0, 1)), (1, (0, 1)))
SHORT = ((1, (1, 1)), (1, (2, 2)), (0, (2, 2)))

# The words 0 1 and 1 0 0 alone.
TWO_WORDS = ((0, (1, 2)), (0, (3, 4)), (0, (5, 3)), (0, (3, 3)), (1, (3, 3)), (0, (4, 3)))


def not_come_to(wide):
    """No word, and behind a state that is not come to words of any length."""
    return ((0, (0,) * wide), (1, (1,) * wide), (1, (0,) * wide))


def edges(wide):
    return [no_word(wide), each_word(wide), empty_word_alone(wide), not_come_to(wide)]


class Cut(MachineCase):
    def is_cut(self, machine, wide, word, size):
        longer = words_had(machine, wide, size + len(word))
        words = {one[len(word):] for one in longer if one[:len(word)] == word}
        self.is_told(cut(machine, word), wide, size, words, (machine, word))

    def test_examples(self):
        self.assertEqual(cut(EVEN, (0,)), ((0, (1, 0)), (1, (0, 1))))
        self.assertEqual(cut(EVEN, (0, 1, 0)), EVEN)
        self.assertEqual(cut(ENDING, (1,)), ((1, (1, 0)), (0, (1, 0))))
        self.assertEqual(cut(SHORT, (1,)), empty_word_alone(2))
        self.assertEqual(cut(SHORT, (1, 0)), no_word(2))
        self.assertEqual(cut(TWO_WORDS, (0,)), ((0, (1, 2)), (0, (1, 1)), (1, (1, 1))))
        self.assertEqual(cut(TWO_WORDS, (1, 0, 0)), empty_word_alone(2))

    def test_each_machine(self):
        for wide in WIDES:
            size = (6, 4, 3)[wide - 1]
            for machine in several_machines(wide)[::2]:
                for word in words_up_to(wide, 2):
                    self.is_cut(machine, wide, word, size)

    def test_longer_words(self):
        for wide in WIDES:
            for machine in some_machines(wide, 5, 12) + some_finite_machines(wide, 6, 12):
                for word in words_up_to(wide, 4)[::5]:
                    self.is_cut(machine, wide, word, (6, 4, 2)[wide - 1])

    def test_the_empty_word(self):
        for wide in WIDES:
            for machine in several_machines(wide):
                self.assertEqual(cut(machine, ()), least(machine))

    def test_letter_by_letter(self):
        for wide in WIDES:
            for machine in several_machines(wide)[::5]:
                for word in words_up_to(wide, 4)[::3]:
                    by_letter = machine
                    for letter in word:
                        by_letter = cut(by_letter, (letter,))
                    self.assertEqual(cut(machine, word), by_letter if word else least(machine))

    def test_edges(self):
        for wide in WIDES:
            for word in words_up_to(wide, 3):
                self.assertEqual(cut(no_word(wide), word), no_word(wide))
                self.assertEqual(cut(not_come_to(wide), word), no_word(wide))
                self.assertEqual(cut(each_word(wide), word), each_word(wide))
                self.assertEqual(cut(empty_word_alone(wide), word), no_word(wide) if word else empty_word_alone(wide))

    def test_a_long_word(self):
        self.assertEqual(cut(EVEN, (0, 1) * 5001), turned_out(EVEN))
        self.assertEqual(cut(long_chain(1000), (0,) * 990), long_chain(10))

    def test_it_does_not_matter_how_the_machine_is_told(self):
        for wide in WIDES:
            for machine in some_machines(wide, 4, 20):
                for other in otherwise_told(machine, wide):
                    for word in words_up_to(wide, 2):
                        self.assertEqual(cut(other, word), cut(machine, word))


class Heads(MachineCase):
    def has_its_heads(self, machine, wide, size):
        # If some word goes on to one of the machine, some goes on by fewer letters than there are states.
        longer = words_had(machine, wide, size + len(machine) - 1)
        words = {word[:k] for word in longer for k in range(min(len(word), size) + 1)}
        self.is_told(heads(machine), wide, size, words, machine)

    def test_examples(self):
        self.assertEqual(heads(EVEN), each_word(2))
        self.assertEqual(heads(ENDING), each_word(2))
        self.assertEqual(heads(SHORT), SHORT)
        self.assertEqual(heads(TWO_WORDS),
                         ((1, (1, 2)), (1, (3, 4)), (1, (5, 3)), (0, (3, 3)), (1, (3, 3)), (1, (4, 3))))
        self.assertEqual(heads(((0, (1, 2)), (1, (1, 2)), (0, (2, 2)))), ((1, (0, 1)), (0, (1, 1))))

    def test_all_small_machines(self):
        for wide in WIDES:
            for states in (1, 2):
                for machine in all_machines(wide, states):
                    self.has_its_heads(machine, wide, 3)

    def test_larger_machines(self):
        for wide in WIDES:
            for states in (3, 4, 5):
                for machine in some_machines(wide, states, 20) + some_finite_machines(wide, states, 20):
                    self.has_its_heads(machine, wide, (6, 4, 3)[wide - 1])

    def test_edges(self):
        for wide in WIDES:
            for machine in (no_word(wide), each_word(wide), empty_word_alone(wide)):
                self.assertEqual(heads(machine), machine)
            self.assertEqual(heads(not_come_to(wide)), no_word(wide))

    def test_heads_of_heads(self):
        for wide in WIDES:
            for machine in several_machines(wide) + some_finite_machines(wide, 6, 40):
                told = heads(machine)
                self.assertEqual(heads(told), told)
                self.assertIs(lies_in(machine, told), True)

    def test_many_states(self):
        chain = long_chain(3000)
        self.assertEqual(heads(chain), tuple((1, steps) for _, steps in chain[:-1]) + (chain[-1],))

    def test_it_does_not_matter_how_the_machine_is_told(self):
        for wide in WIDES:
            for machine in some_machines(wide, 4, 20) + some_finite_machines(wide, 5, 20):
                for other in otherwise_told(machine, wide):
                    self.assertEqual(heads(other), heads(machine))


class FirstWord(unittest.TestCase):
    def tells(self, machine, wide):
        # If it has a word, it has one with fewer letters than there are states.
        had = [word for word in words_up_to(wide, len(machine)) if owns(machine, word)]
        told = first_word(machine)
        if had:
            self.assertTrue(is_plain_word(told, wide), machine)
            self.assertEqual(told, had[0], machine)
        else:
            self.assertIsNone(told, machine)

    def test_examples(self):
        self.assertEqual(first_word(EVEN), ())
        self.assertEqual(first_word(ENDING), (1,))
        self.assertEqual(first_word(TWO_WORDS), (0, 1))
        # The shorter word goes first, though its letter is the later one.
        self.assertEqual(first_word(((0, (1, 2)), (0, (2, 2)), (1, (2, 2)))), (1,))
        # Of one length the one whose first letter is the earlier one, though a later state is come to.
        self.assertEqual(first_word(((0, (2, 1)), (0, (3, 4)), (0, (4, 3)), (1, (3, 3)), (0, (4, 4)))), (0, 1))
        self.assertEqual(first_word(((0, (0, 0, 1)), (0, (0, 2, 0)), (1, (2, 2, 2)))), (2, 1))

    def test_each_machine(self):
        for wide in WIDES:
            for machine in several_machines(wide) + some_finite_machines(wide, 5, 40):
                self.tells(machine, wide)

    def test_edges(self):
        for wide in WIDES:
            self.assertIsNone(first_word(no_word(wide)))
            self.assertIsNone(first_word(not_come_to(wide)))
            self.assertIsNone(first_word(((0, (1,) * wide), (0, (0,) * wide))))
            self.assertEqual(first_word(each_word(wide)), ())
            self.assertEqual(first_word(empty_word_alone(wide)), ())

    def test_a_long_word(self):
        self.assertEqual(first_word(long_chain(3000)), (0,) * 2998)

    def test_it_does_not_matter_how_the_machine_is_told(self):
        for wide in WIDES:
            for machine in some_machines(wide, 4, 20) + some_finite_machines(wide, 5, 20):
                for other in otherwise_told(machine, wide) + [least(machine)]:
                    self.assertEqual(first_word(other), first_word(machine))


class Parting(unittest.TestCase):
    def tells(self, one, other, wide):
        # Of two machines that differ some word tells that has fewer letters than both have states.
        words = words_up_to(wide, len(one) + len(other) - 1)
        differing = [word for word in words if owns(one, word) != owns(other, word)]
        told = parting(one, other)
        if differing:
            self.assertTrue(is_plain_word(told, wide), (one, other))
            self.assertEqual(told, differing[0], (one, other))
        else:
            self.assertIsNone(told, (one, other))

    def test_examples(self):
        self.assertEqual(parting(EVEN, ENDING), ())
        self.assertEqual(parting(EVEN, SHORT), (0,))
        self.assertEqual(parting(SHORT, EVEN), (0,))
        self.assertEqual(parting(SHORT, each_word(2)), (0, 0))
        self.assertEqual(parting(TWO_WORDS, no_word(2)), (0, 1))
        self.assertIsNone(parting(EVEN, EVEN))

    def test_all_pairs_of_small_machines(self):
        for wide in WIDES:
            machines = list(all_machines(wide, 1)) + list(all_machines(wide, 2))
            for one, other in itertools.product(machines[::wide * wide], repeat=2):
                self.tells(one, other, wide)

    def test_pairs_of_larger_machines(self):
        for wide in WIDES:
            for states in (2, 3, 4):
                for one, other in zip(some_machines(wide, states, 24), some_machines(wide, 6 - states, 24)):
                    self.tells(one, other, wide)

    def test_machines_that_differ_by_little(self):
        for wide in WIDES:
            for machine in some_machines(wide, 4, 10):
                for k in range(4):
                    good, steps = machine[k]
                    for other in ((1 - good, steps), (good, steps[1:] + ((steps[0] + 1) % 4,))):
                        self.tells(machine, machine[:k] + (other,) + machine[k + 1:], wide)

    def test_none_where_the_words_are_the_same(self):
        for wide in WIDES:
            for machine in edges(wide) + some_machines(wide, 5, 30):
                self.assertIsNone(parting(machine, machine))
                self.assertIsNone(parting(machine, least(machine)))
                for other in otherwise_told(machine, wide):
                    self.assertIsNone(parting(machine, other))
                    self.assertIsNone(parting(other, machine))

    def test_edges(self):
        for wide in WIDES:
            self.assertEqual(parting(no_word(wide), each_word(wide)), ())
            self.assertEqual(parting(no_word(wide), empty_word_alone(wide)), ())
            self.assertEqual(parting(each_word(wide), empty_word_alone(wide)), (0,))
            self.assertIsNone(parting(no_word(wide), not_come_to(wide)))

    def test_with_no_word_it_is_the_first_word(self):
        for wide in WIDES:
            for machine in several_machines(wide):
                self.assertEqual(parting(machine, no_word(wide)), first_word(machine))
                self.assertEqual(parting(no_word(wide), machine), first_word(machine))

    def test_it_goes_either_way(self):
        for wide in WIDES:
            for one, other in zip(some_machines(wide, 4, 40), some_machines(wide, 5, 40)):
                self.assertEqual(parting(one, other), parting(other, one))

    def test_a_long_word(self):
        # Each of the two rounds comes to its last state; both do so at once by 11 * 13 letters less one.
        self.assertEqual(parting(ring(11, (10,)), ring(13, (12,))), (0,) * 10)
        together = both(ring(11, (10,)), ring(13, (12,)))
        self.assertEqual(parting(together, no_word(1)), (0,) * 142)
        self.assertEqual(parting(long_chain(2000), no_word(1)), (0,) * 1998)


class Longest(unittest.TestCase):
    def reckoned(self, machine):
        """By the states behind the words of each length; from as many letters as states on, a word comes round."""
        states = {0}
        sizes = []
        for size in range(2 * len(machine) + 1):
            if any(machine[state][0] == 1 for state in states):
                sizes.append(size)
            states = {step for state in states for step in machine[state][1]}
        found = max(sizes, default=-1)
        return None if found >= len(machine) else found

    def tells(self, machine):
        told = longest(machine)
        self.assertEqual(told, self.reckoned(machine), machine)
        self.assertIn(type(told), (int, type(None)))

    def test_examples(self):
        self.assertIsNone(longest(EVEN))
        self.assertIsNone(longest(ENDING))
        self.assertEqual(longest(SHORT), 1)
        self.assertEqual(longest(TWO_WORDS), 3)
        self.assertEqual(longest(((0, (1, 1)), (1, (2, 2)), (0, (2, 2)))), 1)

    def test_no_word(self):
        for wide in WIDES:
            self.assertEqual(longest(no_word(wide)), -1)
            self.assertEqual(longest(((0, (1,) * wide), (0, (0,) * wide))), -1)

    def test_the_empty_word_alone(self):
        for wide in WIDES:
            told = longest(empty_word_alone(wide))
            self.assertEqual(told, 0)
            self.assertIs(type(told), int)
            self.assertEqual(longest(((1, (1,) * wide), (0, (2,) * wide), (0, (1,) * wide))), 0)

    def test_words_of_any_length(self):
        for wide in WIDES:
            self.assertIsNone(longest(each_word(wide)))
            self.assertIsNone(longest(turned_out(empty_word_alone(wide))))
        # The round is gone in state 0 alone, in the good state alone, and over all states.
        self.assertIsNone(longest(((0, (0, 1)), (1, (2, 2)), (0, (2, 2)))))
        self.assertIsNone(longest(((0, (2, 1)), (1, (1, 2)), (0, (2, 2)))))
        self.assertIsNone(longest(ring(7, (3,))))

    def test_rounds_that_go_on_to_no_word(self):
        self.assertEqual(longest(((1, (1, 2)), (1, (2, 2)), (0, (3, 3)), (0, (2, 3)))), 1)
        self.assertEqual(longest(((1, (1,)), (0, (2,)), (0, (1,)))), 0)

    def test_states_that_are_not_come_to(self):
        for wide in WIDES:
            self.assertEqual(longest(not_come_to(wide)), -1)
            # A round among good states that are not come to, from which what is come to can be reached.
            for machine in [empty_word_alone(wide)] + some_finite_machines(wide, 5, 20):
                states = len(machine)
                more = machine + ((1, (states + 1,) * wide), (1, (0,) * (wide - 1) + (states,)))
                self.assertEqual(longest(more), longest(machine))
                self.assertIsNotNone(longest(more))

    def test_each_machine(self):
        for wide in WIDES:
            for machine in several_machines(wide):
                self.tells(machine)

    def test_finitely_many_words(self):
        for wide in WIDES:
            found = set()
            for states in (2, 3, 4, 5, 6, 7):
                for machine in some_finite_machines(wide, states, 30):
                    self.tells(machine)
                    self.assertEqual(longest(machine), max([len(word) for word in words_up_to(wide, states)
                                                            if owns(machine, word)], default=-1))
                    found.add(longest(machine))
            self.assertTrue(found >= {-1, 0, 1, 2, 3})

    def test_as_many_letters_as_states_allow(self):
        # All states in a row: the longest word that is not yet of any length.
        for states in (2, 3, 10, 500):
            self.assertEqual(longest(long_chain(states)), states - 2)
        self.assertIsNone(longest(((0, (1,)), (0, (2,)), (1, (2,)))))
        self.assertEqual(longest(long_chain(3000)), 2998)

    def test_it_does_not_matter_how_the_machine_is_told(self):
        for wide in WIDES:
            for machine in some_machines(wide, 4, 20) + some_finite_machines(wide, 5, 20):
                for other in otherwise_told(machine, wide) + [least(machine)]:
                    self.assertEqual(longest(other), longest(machine))


class LiesIn(unittest.TestCase):
    def tells(self, one, other):
        """By all pairs of states that the two are in behind some word."""
        pairs = [(0, 0)]
        for first, second in pairs:
            for pair in zip(one[first][1], other[second][1]):
                if pair not in pairs:
                    pairs.append(pair)
        lies = all(one[first][0] <= other[second][0] for first, second in pairs)
        self.assertIs(lies_in(one, other), lies, (one, other))

    def test_examples(self):
        self.assertIs(lies_in(TWO_WORDS, each_word(2)), True)
        self.assertIs(lies_in(each_word(2), TWO_WORDS), False)
        self.assertIs(lies_in(EVEN, ENDING), False)
        self.assertIs(lies_in(ENDING, EVEN), False)
        self.assertIs(lies_in(both(EVEN, ENDING), EVEN), True)
        self.assertIs(lies_in(EVEN, both(EVEN, ENDING)), False)
        self.assertIs(lies_in(EVEN, EVEN), True)

    def test_by_the_words(self):
        for wide in (1, 2):
            machines = list(all_machines(wide, 1)) + list(all_machines(wide, 2))
            # The least word that one has and the other has not is shorter than there are pairs of states.
            had = {machine: words_had(machine, wide, 3) for machine in machines}
            for one, other in itertools.product(machines, repeat=2):
                self.assertIs(lies_in(one, other), had[one] <= had[other], (one, other))

    def test_pairs_of_larger_machines(self):
        for wide in WIDES:
            machines = several_machines(wide)[::4]
            for one, other in zip(machines, machines[5:] + machines[:5]):
                self.tells(one, other)
                self.tells(one, either(one, other))
                self.tells(either(one, other), one)
                self.tells(both(one, other), other)

    def test_edges(self):
        for wide in WIDES:
            for machine in edges(wide) + some_machines(wide, 4, 20):
                self.assertIs(lies_in(machine, machine), True)
                self.assertIs(lies_in(no_word(wide), machine), True)
                self.assertIs(lies_in(not_come_to(wide), machine), True)
                self.assertIs(lies_in(machine, each_word(wide)), True)
                self.assertIs(lies_in(machine, no_word(wide)), first_word(machine) is None)
                self.assertIs(lies_in(each_word(wide), machine), least(machine) == each_word(wide))
                self.assertIs(lies_in(empty_word_alone(wide), machine), machine[0][0] == 1)

    def test_it_does_not_matter_how_the_machines_are_told(self):
        for wide in WIDES:
            for one, other in zip(some_machines(wide, 3, 20), some_machines(wide, 4, 20)):
                told = lies_in(one, either(one, other))
                self.assertIs(told, True)
                for more in otherwise_told(one, wide):
                    self.assertIs(lies_in(more, one), True)
                    self.assertIs(lies_in(one, more), True)
                    self.assertIs(lies_in(more, other), lies_in(one, other))
                    self.assertIs(lies_in(other, more), lies_in(other, one))


class Again(unittest.TestCase):
    def test_asked_again(self):
        for wide in WIDES:
            for one, other in zip(some_machines(wide, 4, 10), some_finite_machines(wide, 5, 10)):
                before = repr((one, other))
                for ask in (lambda: cut(one, (0,)), lambda: heads(other), lambda: first_word(one), lambda: longest(other),
                            lambda: parting(one, other), lambda: lies_in(one, other)):
                    self.assertEqual(repr(ask()), repr(ask()))
                self.assertEqual(repr((one, other)), before)

    def test_the_samples_themselves(self):
        self.assertEqual(words_had(TWO_WORDS, 2, 6), {(0, 1), (1, 0, 0)})
        for wide in WIDES:
            for machine in some_machines(wide, 3, 5):
                for other in otherwise_told(machine, wide):
                    self.assertEqual(words_had(other, wide, 4), words_had(machine, wide, 4))


if __name__ == "__main__":
    unittest.main()

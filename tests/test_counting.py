import itertools
import unittest

from reckoning import is_plain_word, owns
from samples import (WIDES, each_word, empty_word_alone, long_chain, no_word, otherwise_told, several_machines,
                     some_finite_machines, some_machines)
from wordyard.counting import count_of, words_of
from wordyard.machines import least
from wordyard.pairs import both, either, turned_out
from wordyard.telling import first_word, longest

# The words with an even number of the letter 0; those that end with letter 1; those with just one letter 1.
EVEN = ((1, (1, 0)), (0, (0, 1)))
ENDING = ((0, (0, 1)), (1, (0, 1)))
JUST_ONE = ((0, (0, 1)), (1, (1, 2)), (0, (2, 2)))

# The words without two letters 0 side by side, and those of the letter 2 alone.
NO_PAIR = ((1, (1, 0)), (1, (2, 0)), (0, (2, 2)))
TWOS = ((1, (1, 1, 0)), (0, (1, 1, 1)))

# Up to this length words are counted one by one, by the number of letters.
SIZES = {1: 12, 2: 6, 3: 4}


def all_sorts(wide):
    return several_machines(wide) + some_finite_machines(wide, 5, 30) + some_finite_machines(wide, 7, 30)


def listed(machine, wide, size):
    return tuple(word for word in itertools.product(range(wide), repeat=size) if owns(machine, word))


class CountOf(unittest.TestCase):
    def test_examples(self):
        self.assertEqual([count_of(EVEN, size) for size in range(6)], [1, 1, 2, 4, 8, 16])
        self.assertEqual([count_of(ENDING, size) for size in range(6)], [0, 1, 2, 4, 8, 16])
        self.assertEqual([count_of(JUST_ONE, size) for size in range(6)], [0, 1, 2, 3, 4, 5])
        self.assertEqual([count_of(NO_PAIR, size) for size in range(6)], [1, 2, 3, 5, 8, 13])
        self.assertEqual([count_of(TWOS, size) for size in range(6)], [1] * 6)

    def test_each_machine(self):
        for wide in WIDES:
            for machine in all_sorts(wide):
                for size in range(SIZES[wide] + 1):
                    told = count_of(machine, size)
                    self.assertIs(type(told), int)
                    self.assertEqual(told, len(listed(machine, wide, size)), (machine, size))

    def test_no_letters(self):
        for wide in WIDES:
            for machine in all_sorts(wide):
                self.assertEqual(count_of(machine, 0), machine[0][0])

    def test_edges(self):
        for wide in WIDES:
            for size in (0, 1, 2, 7, 300):
                self.assertEqual(count_of(no_word(wide), size), 0)
                self.assertEqual(count_of(each_word(wide), size), wide ** size)
                self.assertEqual(count_of(empty_word_alone(wide), size), 1 if size == 0 else 0)
                # Words from states on that are not come to count for nothing.
                self.assertEqual(count_of(((0, (0,) * wide), (1, (1,) * wide)), size), 0)

    def test_great_sizes(self):
        self.assertEqual(count_of(EVEN, 700), 2 ** 699)
        self.assertEqual(count_of(ENDING, 700), 2 ** 699)
        self.assertEqual(count_of(JUST_ONE, 900), 900)
        self.assertEqual(count_of(TWOS, 900), 1)
        one, other = 1, 2
        for size in range(500):
            one, other = other, one + other
        self.assertEqual(count_of(NO_PAIR, 500), one)
        self.assertEqual(count_of(long_chain(400), 398), 1)
        self.assertEqual(count_of(long_chain(400), 397), 0)
        self.assertEqual(count_of(long_chain(400), 800), 0)
        self.assertEqual(count_of(((0, (1,)), (0, (2,)), (1, (0,))), 30000), 0)
        self.assertEqual(count_of(((0, (1,)), (0, (2,)), (1, (0,))), 30002), 1)

    def test_with_those_it_has_not_all_are_counted(self):
        for wide in WIDES:
            for machine in some_machines(wide, 6, 20):
                for size in (0, 1, 5, 250):
                    self.assertEqual(count_of(machine, size) + count_of(turned_out(machine), size), wide ** size)

    def test_of_both_and_of_either(self):
        for wide in WIDES:
            for one, other in zip(some_machines(wide, 4, 20), some_machines(wide, 5, 20)):
                for size in (0, 1, 4, 200):
                    self.assertEqual(count_of(one, size) + count_of(other, size),
                                     count_of(both(one, other), size) + count_of(either(one, other), size))

    def test_no_longer_words_than_the_longest(self):
        for wide in WIDES:
            for machine in some_finite_machines(wide, 6, 40):
                size = longest(machine)
                if size >= 0:
                    self.assertGreater(count_of(machine, size), 0)
                for more in (1, 2, 10, 300):
                    self.assertEqual(count_of(machine, size + more), 0)

    def test_it_does_not_matter_how_the_machine_is_told(self):
        for wide in WIDES:
            for machine in some_machines(wide, 4, 20):
                for other in otherwise_told(machine, wide) + [least(machine)]:
                    for size in (0, 1, 2, 5, 100):
                        self.assertEqual(count_of(other, size), count_of(machine, size))


class WordsOf(unittest.TestCase):
    def test_examples(self):
        self.assertEqual(words_of(EVEN, 0), ((),))
        self.assertEqual(words_of(EVEN, 2), ((0, 0), (1, 1)))
        self.assertEqual(words_of(EVEN, 3), ((0, 0, 1), (0, 1, 0), (1, 0, 0), (1, 1, 1)))
        self.assertEqual(words_of(ENDING, 0), ())
        self.assertEqual(words_of(ENDING, 3), ((0, 0, 1), (0, 1, 1), (1, 0, 1), (1, 1, 1)))
        self.assertEqual(words_of(TWOS, 2), ((2, 2),))

    def test_each_machine(self):
        for wide in WIDES:
            for machine in all_sorts(wide):
                for size in range(SIZES[wide] + 1):
                    told = words_of(machine, size)
                    self.assertIs(type(told), tuple)
                    self.assertTrue(all(is_plain_word(word, wide) for word in told))
                    self.assertEqual(told, listed(machine, wide, size), (machine, size))

    def test_as_many_as_are_counted(self):
        for wide in WIDES:
            for machine in some_machines(wide, 6, 20) + some_finite_machines(wide, 7, 20):
                for size in (0, 3, 7):
                    self.assertEqual(len(words_of(machine, size)), count_of(machine, size))

    def test_edges(self):
        for wide in WIDES:
            for size in (0, 1, 2, 5, 300):
                self.assertEqual(words_of(no_word(wide), size), ())
                self.assertEqual(words_of(empty_word_alone(wide), size), ((),) if size == 0 else ())
                self.assertEqual(words_of(((0, (0,) * wide), (1, (1,) * wide)), size), ())
            for size in range(6):
                self.assertEqual(words_of(each_word(wide), size), tuple(itertools.product(range(wide), repeat=size)))

    def test_great_sizes(self):
        # There are so many words of this size that they could not all be gone through.
        self.assertEqual(words_of(TWOS, 500), ((2,) * 500,))
        told = words_of(JUST_ONE, 120)
        self.assertEqual(told, tuple((0,) * (119 - k) + (1,) + (0,) * k for k in range(120)))
        self.assertEqual(words_of(long_chain(400), 398), ((0,) * 398,))
        self.assertEqual(words_of(long_chain(400), 399), ())
        self.assertEqual(words_of(each_word(1), 3000), ((0,) * 3000,))

    def test_beginnings_that_come_to_nothing(self):
        # All words of 30 letters go on to words, but none of them is one.
        later = tuple((0, (k + 1, k + 1)) for k in range(31)) + ((1, (31, 31)),)
        self.assertEqual(words_of(later, 30), ())
        # Any word may begin so, but all but one of them are lost at some letter.
        ones = ((1, (1, 0)), (0, (1, 1)))
        self.assertEqual(words_of(ones, 200), ((1,) * 200,))

    def test_the_first_word_is_the_first_of_its_length(self):
        for wide in WIDES:
            for machine in several_machines(wide):
                word = first_word(machine)
                if word is not None:
                    self.assertEqual(words_of(machine, len(word))[0], word)
                    for size in range(len(word)):
                        self.assertEqual(words_of(machine, size), ())

    def test_it_does_not_matter_how_the_machine_is_told(self):
        for wide in WIDES:
            for machine in some_machines(wide, 4, 20):
                for other in otherwise_told(machine, wide) + [least(machine)]:
                    for size in (0, 1, 4):
                        self.assertEqual(words_of(other, size), words_of(machine, size))


class Again(unittest.TestCase):
    def test_asked_again(self):
        for wide in WIDES:
            for machine in some_machines(wide, 4, 10):
                before = repr(machine)
                self.assertEqual(repr(count_of(machine, 9)), repr(count_of(machine, 9)))
                self.assertEqual(repr(words_of(machine, 4)), repr(words_of(machine, 4)))
                self.assertEqual(repr(machine), before)


if __name__ == "__main__":
    unittest.main()

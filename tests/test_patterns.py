import itertools
import unittest

from reckoning import most_others, names_within, words_had, words_told
from samples import (WIDES, all_machines, each_word, empty_word_alone, long_chain, no_word, otherwise_told, renumbered,
                     several_machines, some_finite_machines, some_machines, some_patterns)
from wordyard.errors import NoPattern, NoRoom, NoText, YardError
from wordyard.machines import least
from wordyard.making import machine_of
from wordyard.patterns import pattern_of
from wordyard.reading import read
from wordyard.things import is_pattern
from wordyard.writing import written

NAMES = {"none", "empty", "letter", "then", "or", "many"}


def tangled(wide, states):
    """Machines of so many states, each of which is come to from many others; all but few are least."""
    return [tuple((1 if k in goods else 0, tuple((k * by + 1 + letter * letter) % states for letter in range(wide)))
                  for k in range(states))
            for goods in ((0,), (states - 1,), (1, 2)) for by in (1, 2, 5)]


class PatternOf(unittest.TestCase):
    def is_pattern_of(self, machine, wide):
        pattern = pattern_of(machine)
        self.assertIs(is_pattern(pattern, wide), True, machine)
        self.assertLessEqual(names_within(pattern), NAMES, machine)
        self.assertLessEqual(most_others(pattern), 40, machine)
        self.assertEqual(machine_of(pattern, wide), least(machine), machine)
        return pattern

    def test_examples(self):
        for wide, machine in ((2, ((1, (1, 0)), (0, (0, 1)))), (2, ((0, (0, 1)), (1, (0, 1)))),
                              (3, ((0, (0, 1, 2)), (0, (1, 2, 0)), (1, (2, 0, 1)))), (1, ((0, (1,)), (1, (0,))))):
            pattern = self.is_pattern_of(machine, wide)
            self.assertEqual(words_told(pattern, wide, 4), words_had(machine, wide, 4))

    def test_edges(self):
        for wide in WIDES:
            for machine in (no_word(wide), each_word(wide), empty_word_alone(wide), ((0, (1,) * wide), (0, (0,) * wide)),
                            ((0, (0,) * wide), (1, (1,) * wide)), ((1, (1,) * wide), (1, (0,) * wide))):
                pattern = self.is_pattern_of(machine, wide)
                self.assertEqual(words_told(pattern, wide, 3), words_had(machine, wide, 3))

    def test_all_small_machines(self):
        for wide in WIDES:
            for states in (1, 2):
                for machine in all_machines(wide, states):
                    pattern = self.is_pattern_of(machine, wide)
                    self.assertEqual(words_told(pattern, wide, 3), words_had(machine, wide, 3))
        for machine in itertools.islice(all_machines(2, 3), 0, None, 17):
            pattern = self.is_pattern_of(machine, 2)
            self.assertEqual(words_told(pattern, 2, 4), words_had(machine, 2, 4))

    def test_machines_of_up_to_six_states(self):
        for wide in WIDES:
            for states in (3, 4, 5, 6):
                for machine in some_machines(wide, states, 20) + some_finite_machines(wide, states, 10):
                    self.is_pattern_of(machine, wide)

    def test_six_states_come_to_from_many_others(self):
        for wide in WIDES:
            for machine in tangled(wide, 6):
                for places in ((0, 1, 2, 3, 4, 5), (5, 4, 3, 2, 1, 0), (3, 0, 4, 1, 5, 2)):
                    self.is_pattern_of(renumbered(machine, places), wide)

    def test_all_states_good_or_just_one(self):
        for wide in WIDES:
            for machine in some_machines(wide, 6, 3):
                for goods in ((0, 1, 2, 3, 4, 5), (), (0,), (5,), (1, 3, 5), (0, 2, 3, 4, 5)):
                    told = tuple((1 if k in goods else 0, steps) for k, (_, steps) in enumerate(machine))
                    self.is_pattern_of(told, wide)

    def test_from_a_pattern_and_back(self):
        for wide in WIDES:
            made = 0
            for pattern in some_patterns(wide, 4, 60):
                machine = machine_of(pattern, wide)
                if len(machine) <= 6:
                    made += 1
                    again = self.is_pattern_of(machine, wide)
                    self.assertEqual(read(written(again, wide), wide), again)
            self.assertGreater(made, 30)

    def test_it_does_not_matter_how_the_machine_is_told(self):
        for wide in WIDES:
            for machine in some_machines(wide, 2, 10) + some_machines(wide, 3, 10):
                for other in otherwise_told(machine, wide):
                    self.is_pattern_of(other, wide)

    def test_asked_again(self):
        for wide in WIDES:
            for machine in some_machines(wide, 5, 10):
                before = repr(machine)
                self.assertEqual(repr(pattern_of(machine)), repr(pattern_of(machine)))
                self.assertEqual(repr(machine), before)


class Room(unittest.TestCase):
    def is_refused(self, machine):
        for error in (NoRoom, YardError, ValueError):
            with self.assertRaises(error) as caught:
                pattern_of(machine)
            self.assertIs(type(caught.exception), NoRoom)
            self.assertNotIsInstance(caught.exception, (NoPattern, NoText))

    def test_six_states_and_seven(self):
        self.assertEqual(machine_of(pattern_of(long_chain(6)), 1), long_chain(6))
        self.is_refused(long_chain(7))
        for wide in WIDES:
            ring = [tuple((1 if k == 0 else 0, ((k + 1) % states,) * wide) for k in range(states)) for states in (6, 7)]
            self.assertEqual(machine_of(pattern_of(ring[0]), wide), ring[0])
            self.is_refused(ring[1])

    def test_more_states(self):
        for wide in WIDES:
            for states in (7, 8, 9, 20, 300):
                for machine in some_machines(wide, states, 3):
                    self.is_refused(machine)

    def test_states_are_counted_as_they_are_handed_in(self):
        for wide in WIDES:
            for machine in several_machines(wide)[::40]:
                # One more state that is not come to, and no fewer words: six are taken and seven refused.
                more = machine + ((1, (0,) * wide),) * (6 - len(machine))
                self.assertEqual(machine_of(pattern_of(more), wide), least(machine))
                self.is_refused(more + ((0, (0,) * wide),))
            self.is_refused(((0, (0,) * wide),) * 7)
            self.is_refused(((1, (6,) * wide),) * 7)


if __name__ == "__main__":
    unittest.main()

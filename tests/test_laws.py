"""Laws that hold over the whole program, for machines of all sorts and for patterns."""

import itertools
import unittest

from reckoning import has_least_form, is_plain_machine, is_plain_word, words_up_to
from samples import (WIDES, each_word, empty_word_alone, no_word, otherwise_told, some_finite_machines, some_machines,
                     some_patterns)
from wordyard.counting import count_of, words_of
from wordyard.machines import behind, has, is_least, least
from wordyard.making import machine_of
from wordyard.pairs import apart, both, either, turned_out
from wordyard.patterns import pattern_of
from wordyard.reading import read
from wordyard.rows import backward, joined, repeated
from wordyard.telling import cut, first_word, heads, lies_in, longest, parting
from wordyard.writing import written


def machines_of_all_sorts(wide):
    """Least ones and others, with no word, with the empty word alone, with few, many and all words."""
    small = [no_word(wide), each_word(wide), empty_word_alone(wide), ((0, (1,) * wide), (1, (0,) * wide))]
    mixed = some_machines(wide, 2, 4) + some_machines(wide, 3, 6) + some_finite_machines(wide, 4, 4)
    return small + mixed + otherwise_told(mixed[3], wide)[:2] + [machine_of(p, wide) for p in some_patterns(wide, 3, 4)]


def pairs_of_machines():
    for wide in WIDES:
        for one, other in itertools.product(machines_of_all_sorts(wide), repeat=2):
            yield wide, one, other


def threes_of_machines():
    for wide in WIDES:
        machines = machines_of_all_sorts(wide)
        for k, one in enumerate(machines):
            for by in (1, 3, 7):
                yield wide, one, machines[(k + by) % len(machines)], machines[(k * 5 + by) % len(machines)]


class Pairs(unittest.TestCase):
    def test_turned_about(self):
        for wide, one, other in pairs_of_machines():
            self.assertEqual(both(one, other), both(other, one))
            self.assertEqual(either(one, other), either(other, one))
            self.assertEqual(apart(one, other), apart(other, one))

    def test_put_together_in_any_way(self):
        for wide, one, two, three in threes_of_machines():
            for ask in (both, either, apart):
                self.assertEqual(ask(one, ask(two, three)), ask(ask(one, two), three))
            self.assertEqual(both(one, either(two, three)), either(both(one, two), both(one, three)))
            self.assertEqual(either(one, both(two, three)), both(either(one, two), either(one, three)))

    def test_turned_out_exchanges_both_and_either(self):
        for wide, one, other in pairs_of_machines():
            self.assertEqual(turned_out(both(one, other)), either(turned_out(one), turned_out(other)))
            self.assertEqual(turned_out(either(one, other)), both(turned_out(one), turned_out(other)))

    def test_what_just_one_has(self):
        for wide, one, other in pairs_of_machines():
            self.assertEqual(apart(one, other), both(either(one, other), turned_out(both(one, other))))

    def test_with_itself(self):
        for wide in WIDES:
            for machine in machines_of_all_sorts(wide):
                self.assertEqual(both(machine, machine), least(machine))
                self.assertEqual(either(machine, machine), least(machine))
                self.assertEqual(apart(machine, machine), no_word(wide))
                self.assertEqual(turned_out(turned_out(machine)), least(machine))
                self.assertEqual(both(machine, turned_out(machine)), no_word(wide))
                self.assertEqual(either(machine, turned_out(machine)), each_word(wide))


class Rows(unittest.TestCase):
    def test_behind_one_another_in_any_way(self):
        for wide, one, two, three in threes_of_machines():
            self.assertEqual(joined(joined(one, two, wide), three, wide), joined(one, joined(two, three, wide), wide))

    def test_behind_either(self):
        for wide, one, two, three in threes_of_machines():
            self.assertEqual(joined(one, either(two, three), wide),
                             either(joined(one, two, wide), joined(one, three, wide)))
            self.assertEqual(joined(either(one, two), three, wide),
                             either(joined(one, three, wide), joined(two, three, wide)))

    def test_repeated_twice(self):
        for wide in WIDES:
            for machine in machines_of_all_sorts(wide):
                once = repeated(machine, wide)
                self.assertEqual(repeated(once, wide), once)
                self.assertEqual(either(empty_word_alone(wide), joined(machine, once, wide)), once)

    def test_backward_twice(self):
        for wide in WIDES:
            for machine in machines_of_all_sorts(wide):
                self.assertEqual(backward(backward(machine, wide), wide), least(machine))

    def test_backward_of_what_is_put_together(self):
        for wide, one, other in pairs_of_machines():
            self.assertEqual(backward(joined(one, other, wide), wide),
                             joined(backward(other, wide), backward(one, wide), wide))
            self.assertEqual(backward(either(one, other), wide), either(backward(one, wide), backward(other, wide)))


class Telling(unittest.TestCase):
    def test_cut_letter_by_letter_is_cut_at_once(self):
        for wide in WIDES:
            for machine in machines_of_all_sorts(wide):
                for word in words_up_to(wide, 3):
                    told = least(machine)
                    for letter in word:
                        told = cut(told, (letter,))
                    self.assertEqual(cut(machine, word), told)

    def test_cut_of_what_is_put_together(self):
        for wide, one, other in pairs_of_machines():
            for word in ((), (0,), (wide - 1, 0)):
                for ask in (both, either, apart):
                    self.assertEqual(cut(ask(one, other), word), ask(cut(one, word), cut(other, word)))

    def test_what_is_cut_has_the_empty_word_just_if_the_word_is_had(self):
        for wide in WIDES:
            for machine in machines_of_all_sorts(wide):
                for word in words_up_to(wide, 4):
                    self.assertIs(has(cut(machine, word), ()), has(machine, word))
                    self.assertIs(has(heads(machine), word), first_word(cut(machine, word)) is not None)

    def test_heads_of_either(self):
        for wide, one, other in pairs_of_machines():
            self.assertEqual(heads(either(one, other)), either(heads(one), heads(other)))

    def test_one_lies_in_the_other_just_if_either_is_the_other(self):
        answers = set()
        for wide, one, other in pairs_of_machines():
            told = lies_in(one, other)
            self.assertIs(told, either(one, other) == least(other))
            self.assertIs(told, both(one, other) == least(one))
            answers.add(told)
        self.assertEqual(answers, {True, False})

    def test_each_lies_in_the_other_just_if_nothing_parts_them(self):
        for wide, one, other in pairs_of_machines():
            same = parting(one, other) is None
            self.assertIs(lies_in(one, other) and lies_in(other, one), same)
            self.assertIs(least(one) == least(other), same)

    def test_just_one_has_the_word_where_they_part(self):
        for wide, one, other in pairs_of_machines():
            word = parting(one, other)
            if word is not None:
                self.assertIsNot(has(one, word), has(other, word))
                for size in range(len(word)):
                    self.assertEqual(words_of(one, size), words_of(other, size))

    def test_the_least_and_the_longest_word_are_counted(self):
        for wide in WIDES:
            for machine in machines_of_all_sorts(wide):
                word = first_word(machine)
                size = longest(machine)
                self.assertIs(word is None, size == -1)
                if word is not None:
                    self.assertEqual(words_of(machine, len(word))[0], word)
                    self.assertEqual(sum(count_of(machine, k) for k in range(len(word))), 0)
                if size is not None:
                    if size >= 0:
                        self.assertGreater(count_of(machine, size), 0)
                    self.assertEqual(sum(count_of(machine, k) for k in range(size + 1, size + 30)), 0)
                else:
                    states = len(machine)
                    self.assertGreater(sum(count_of(machine, k) for k in range(states * 9, states * 10)), 0)


class Patterns(unittest.TestCase):
    def test_a_pattern_is_put_together_as_its_parts_are(self):
        for wide in WIDES:
            patterns = some_patterns(wide, 3, 12)
            for p, q in itertools.product(patterns, repeat=2):
                one, other = machine_of(p, wide), machine_of(q, wide)
                self.assertEqual(machine_of(("then", p, q), wide), joined(one, other, wide))
                self.assertEqual(machine_of(("or", p, q), wide), either(one, other))
                self.assertEqual(machine_of(("and", p, q), wide), both(one, other))
            for p in patterns:
                self.assertEqual(machine_of(("not", p), wide), turned_out(machine_of(p, wide)))
                self.assertEqual(machine_of(("many", p), wide), repeated(machine_of(p, wide), wide))

    def test_through_texts_and_back_from_machines(self):
        for wide in WIDES:
            for pattern in some_patterns(wide, 4, 40):
                machine = machine_of(read(written(pattern, wide), wide), wide)
                self.assertIs(is_least(machine, wide), True)
                if len(machine) <= 6:
                    again = read(written(pattern_of(machine), wide), wide)
                    self.assertEqual(machine_of(again, wide), machine)

    def test_two_patterns_have_one_machine_just_if_no_word_parts_them(self):
        for wide in WIDES:
            machines = [machine_of(pattern, wide) for pattern in some_patterns(wide, 3, 30)]
            for one, other in itertools.product(machines, repeat=2):
                self.assertIs(one == other, parting(one, other) is None)


class Kinds(unittest.TestCase):
    def test_what_is_told(self):
        for wide in WIDES:
            machines = machines_of_all_sorts(wide)
            for one, other in zip(machines, machines[1:] + machines[:1]):
                for told in (least(one), both(one, other), either(one, other), apart(one, other), turned_out(one),
                             joined(one, other, wide), repeated(one, wide), backward(one, wide), cut(one, (0,)), heads(one)):
                    self.assertTrue(is_plain_machine(told, wide) and has_least_form(told), (one, other))
                for word in (first_word(one), parting(one, other)):
                    self.assertTrue(word is None or is_plain_word(word, wide))
                for truth in (has(one, (0,)), is_least(one, wide), lies_in(one, other)):
                    self.assertIs(type(truth), bool)
                self.assertIs(type(behind(one, 0, (0,))), int)
                self.assertIs(type(count_of(one, 3)), int)
                self.assertIn(type(longest(one)), (int, type(None)))
                told = words_of(one, 3)
                self.assertTrue(type(told) is tuple and all(is_plain_word(word, wide) for word in told))

    def test_nothing_that_is_handed_in_is_changed_and_the_same_is_told_again(self):
        for wide in WIDES:
            machines = machines_of_all_sorts(wide)
            for one, other in zip(machines, machines[2:] + machines[:2]):
                asks = (lambda: both(one, other), lambda: either(one, other), lambda: apart(one, other),
                        lambda: turned_out(one), lambda: joined(one, other, wide), lambda: repeated(one, wide),
                        lambda: backward(one, wide), lambda: cut(one, (0,)), lambda: heads(one), lambda: first_word(one),
                        lambda: parting(one, other), lambda: longest(one), lambda: lies_in(one, other),
                        lambda: count_of(one, 5), lambda: words_of(one, 3),
                        lambda: pattern_of(one) if len(one) <= 6 else None)
                before = repr((one, other))
                first = [repr(ask()) for ask in asks]
                # In the other order, so that no answer hangs on what was asked ahead of it.
                second = [repr(ask()) for ask in reversed(asks)]
                self.assertEqual(first, second[::-1])
                self.assertEqual(repr((one, other)), before)


if __name__ == "__main__":
    unittest.main()

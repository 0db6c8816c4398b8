import itertools
import unittest

from reckoning import MachineCase, has_least_form, is_plain_machine, most_others, words_had, words_told, words_up_to
from samples import (AROUND, WIDES, each_word, empty_word_alone, inside, no_word, patterns_with_texts, simple_patterns,
                     some_patterns, with_parts)
from wordyard.machines import has, is_least
from wordyard.making import machine_of

# Up to this length words are compared, by the number of letters.
SIZES = {1: 9, 2: 5, 3: 4}

NONE, EMPTY, ANY = ("none",), ("empty",), ("any",)
ZERO, ONE, TWO = ("letter", 0), ("letter", 1), ("letter", 2)


def alike(p, q, r, wide):
    """Pairs of patterns that have the same words, whatever p, q and r have."""
    letters = ZERO
    for k in range(1, wide):
        letters = ("or", ("letter", k), letters)
    return [
        (ANY, letters),
        (("not", NONE), ("many", ANY)),
        (("not", ("many", ANY)), NONE),
        (("many", NONE), EMPTY),
        (("many", EMPTY), EMPTY),
        (("not", EMPTY), ("then", ANY, ("many", ANY))),
        (("not", ("not", p)), p),
        (("or", p, p), p),
        (("and", p, p), p),
        (("or", p, NONE), p),
        (("and", p, NONE), NONE),
        (("or", p, ("not", p)), ("not", NONE)),
        (("and", p, ("not", p)), NONE),
        (("then", p, EMPTY), p),
        (("then", EMPTY, p), p),
        (("then", p, NONE), NONE),
        (("then", NONE, p), NONE),
        (("or", p, q), ("or", q, p)),
        (("and", p, q), ("and", q, p)),
        (("or", ("or", p, q), r), ("or", p, ("or", q, r))),
        (("and", ("and", p, q), r), ("and", p, ("and", q, r))),
        (("then", ("then", p, q), r), ("then", p, ("then", q, r))),
        (("and", p, ("or", q, r)), ("or", ("and", p, q), ("and", p, r))),
        (("then", p, ("or", q, r)), ("or", ("then", p, q), ("then", p, r))),
        (("then", ("or", p, q), r), ("or", ("then", p, r), ("then", q, r))),
        (("not", ("or", p, q)), ("and", ("not", p), ("not", q))),
        (("not", ("and", p, q)), ("or", ("not", p), ("not", q))),
        (("many", ("many", p)), ("many", p)),
        (("many", p), ("or", EMPTY, ("then", p, ("many", p)))),
        (("then", p, ("many", p)), ("then", ("many", p), p)),
        (("many", ("or", p, q)), ("many", ("then", ("many", p), ("many", q)))),
        (("then", p, ("many", ("then", q, p))), ("then", ("many", ("then", p, q)), p)),
    ]


class MachineOf(MachineCase):
    def is_made(self, pattern, wide):
        size = SIZES[wide]
        self.is_told(machine_of(pattern, wide), wide, size, words_told(pattern, wide, size), pattern)

    def test_each_form(self):
        for pattern, machine in (
            (NONE, ((0, (0, 0)),)),
            (EMPTY, ((1, (1, 1)), (0, (1, 1)))),
            (ZERO, ((0, (1, 2)), (1, (2, 2)), (0, (2, 2)))),
            (ONE, ((0, (1, 2)), (0, (1, 1)), (1, (1, 1)))),
            (ANY, ((0, (1, 1)), (1, (2, 2)), (0, (2, 2)))),
            (("then", ZERO, ONE), ((0, (1, 2)), (0, (2, 3)), (0, (2, 2)), (1, (2, 2)))),
            (("or", ZERO, EMPTY), ((1, (1, 2)), (1, (2, 2)), (0, (2, 2)))),
            (("and", ANY, ONE), ((0, (1, 2)), (0, (1, 1)), (1, (1, 1)))),
            (("not", ZERO), ((1, (1, 2)), (0, (2, 2)), (1, (2, 2)))),
            (("many", ZERO), ((1, (0, 1)), (0, (1, 1)))),
        ):
            self.assertEqual(machine_of(pattern, 2), machine, pattern)

    def test_patterns_several_deep(self):
        ends_with_one = ("then", ("many", ANY), ONE)
        self.assertEqual(machine_of(ends_with_one, 2), ((0, (0, 1)), (1, (0, 1))))
        has_zero_one = ("then", ("many", ANY), ("then", ("then", ZERO, ONE), ("many", ANY)))
        self.assertEqual(machine_of(has_zero_one, 2), ((0, (1, 0)), (0, (1, 2)), (1, (2, 2))))
        even = ("many", ("or", ONE, ("then", ZERO, ("then", ("many", ONE), ZERO))))
        self.assertEqual(machine_of(even, 2), ((1, (1, 0)), (0, (0, 1))))
        self.assertEqual(machine_of(("and", even, ends_with_one), 2), ((0, (1, 2)), (0, (0, 1)), (1, (1, 2))))
        no_two = ("not", ("then", ("many", ANY), ("then", TWO, ("many", ANY))))
        self.assertEqual(machine_of(no_two, 3), ((1, (0, 0, 1)), (0, (1, 1, 1))))

    def test_a_letter_by_the_number_of_letters(self):
        self.assertEqual(machine_of(ZERO, 1), ((0, (1,)), (1, (2,)), (0, (2,))))
        self.assertEqual(machine_of(ZERO, 3), ((0, (1, 2, 2)), (1, (2, 2, 2)), (0, (2, 2, 2))))
        self.assertEqual(machine_of(ONE, 3), ((0, (1, 2, 1)), (0, (1, 1, 1)), (1, (1, 1, 1))))
        self.assertEqual(machine_of(TWO, 3), ((0, (1, 1, 2)), (0, (1, 1, 1)), (1, (1, 1, 1))))
        self.assertEqual(machine_of(ANY, 1), machine_of(ZERO, 1))

    def test_edges(self):
        for wide in WIDES:
            self.assertEqual(machine_of(NONE, wide), no_word(wide))
            self.assertEqual(machine_of(EMPTY, wide), empty_word_alone(wide))
            self.assertEqual(machine_of(("not", NONE), wide), each_word(wide))
            self.assertEqual(machine_of(("many", ANY), wide), each_word(wide))
            self.assertEqual(machine_of(("many", NONE), wide), empty_word_alone(wide))
            self.assertEqual(machine_of(("then", NONE, ("many", ANY)), wide), no_word(wide))
            self.assertEqual(machine_of(("and", ZERO, EMPTY), wide), no_word(wide))

    def test_patterns_of_all_forms(self):
        for wide in WIDES:
            for pattern, text in patterns_with_texts(wide)[::wide * wide]:
                self.is_made(pattern, wide)

    def test_each_form_with_simple_parts(self):
        for wide in WIDES:
            for pattern, text in simple_patterns(wide) + with_parts(simple_patterns(wide)):
                self.is_made(pattern, wide)

    def test_mixed_patterns(self):
        for wide in WIDES:
            for deep in (3, 4, 5):
                for pattern in some_patterns(wide, deep, 60):
                    self.is_made(pattern, wide)

    def test_the_same_words_told_otherwise(self):
        for wide in WIDES:
            patterns = some_patterns(wide, 2, 20) + some_patterns(wide, 3, 10)
            for p, q, r in zip(patterns, patterns[7:] + patterns[:7], patterns[13:] + patterns[:13]):
                for one, other in alike(p, q, r, wide):
                    self.assertEqual(machine_of(one, wide), machine_of(other, wide), (one, other))

    def test_the_same_machine_just_if_the_words_are_the_same(self):
        for wide in WIDES:
            # These machines have so few states that those that differ do so by a word of such a length.
            size = (12, 6, 5)[wide - 1]
            by_words = {}
            by_machine = {}
            for pattern, text in patterns_with_texts(wide)[::wide ** 3]:
                machine = machine_of(pattern, wide)
                words = frozenset(words_told(pattern, wide, size))
                self.assertEqual(by_words.setdefault(words, machine), machine, pattern)
                self.assertEqual(by_machine.setdefault(machine, words), words, pattern)
            self.assertGreater(len(by_words), 15)

    def test_the_machine_says_of_each_word_whether_it_is_the_patterns(self):
        for wide in WIDES:
            for pattern in some_patterns(wide, 4, 20):
                machine = machine_of(pattern, wide)
                told = words_told(pattern, wide, SIZES[wide])
                for word in words_up_to(wide, SIZES[wide]):
                    self.assertIs(has(machine, word), word in told)

    def test_it_is_least(self):
        for wide in WIDES:
            for pattern in some_patterns(wide, 5, 60):
                self.assertIs(is_least(machine_of(pattern, wide), wide), True)


class Deep(MachineCase):
    def test_in_forty_others(self):
        for wide in WIDES:
            for around in AROUND:
                for leaf, text in simple_patterns(wide):
                    pattern = inside(leaf, around, 40)
                    self.assertEqual(most_others(pattern), 40)
                    size = SIZES[wide]
                    told = machine_of(pattern, wide)
                    self.is_told(told, wide, size, words_told(pattern, wide, size), pattern)

    def test_forty_letters(self):
        for wide in WIDES:
            row = tuple(k % wide for k in range(41))
            ahead = ("letter", row[40])
            back = ("letter", row[0])
            for k in range(40):
                ahead = ("then", ("letter", row[39 - k]), ahead)
                back = ("then", back, ("letter", row[k + 1]))
            machine = machine_of(ahead, wide)
            self.assertEqual(machine_of(back, wide), machine)
            self.assertTrue(is_plain_machine(machine, wide) and has_least_form(machine))
            self.assertEqual(len(machine), 43)
            self.assertIs(has(machine, row), True)
            for word in (row[1:], row[:40], row + (0,), row + row, ()):
                self.assertIs(has(machine, word), False)

    def test_mixed_forms_forty_deep(self):
        for wide in WIDES:
            for start in range(len(AROUND)):
                pattern = ("then", ("letter", wide - 1), ("letter", 0))
                for k in range(39):
                    pattern = AROUND[(start + 3 * k + k // 8) % len(AROUND)](pattern)
                self.assertEqual(most_others(pattern), 40)
                size = SIZES[wide]
                self.is_told(machine_of(pattern, wide), wide, size, words_told(pattern, wide, size), pattern)

    def test_forms_in_turn_whose_machines_stay_small(self):
        # Followed without care, the states of these would be far too many sets of states.
        two_more = (lambda p: ("many", p), lambda p: ("then", p, ANY), lambda p: ("then", p, ANY))
        around_zero = (lambda p: ("many", p), lambda p: ("then", ANY, p), lambda p: ("then", p, ZERO))
        ahead = (lambda p: ("then", ANY, p),) * 38 + (lambda p: ("then", ZERO, p), lambda p: ("then", ("many", ANY), p))
        for turns, leaf, states in ((two_more, ZERO, 28), (around_zero, ZERO, 106), (ahead, ("not", NONE), 40)):
            pattern = leaf
            for k in range(40):
                pattern = turns[k % len(turns)](pattern)
            machine = machine_of(pattern, 2)
            self.assertEqual(len(machine), states)
            self.is_told(machine, 2, 5, words_told(pattern, 2, 5), turns)

    def test_somewhat_deeper(self):
        for around in AROUND:
            pattern = inside(ANY, around, 60)
            self.is_told(machine_of(pattern, 2), 2, 5, words_told(pattern, 2, 5), pattern)


class Again(unittest.TestCase):
    def test_asked_again(self):
        for wide in WIDES:
            for pattern in some_patterns(wide, 4, 20):
                before = repr(pattern)
                told = machine_of(pattern, wide)
                self.assertEqual(repr(machine_of(pattern, wide)), repr(told))
                self.assertEqual(repr(pattern), before)

    def test_no_answer_hangs_on_the_number_of_letters_asked_before(self):
        for wide in (1, 2, 3, 1, 3, 2):
            for pattern in (ZERO, ANY, EMPTY, ("many", ("not", ZERO))):
                self.assertTrue(is_plain_machine(machine_of(pattern, wide), wide))


class Reckoned(unittest.TestCase):
    def test_the_reckoning_itself(self):
        for pattern, words in ((NONE, set()), (EMPTY, {()}), (ONE, {(1,)}), (ANY, {(0,), (1,)}),
                               (("then", ANY, ONE), {(0, 1), (1, 1)}), (("or", ONE, EMPTY), {(1,), ()}),
                               (("and", ANY, ONE), {(1,)}), (("many", ONE), {(), (1,), (1, 1)}),
                               (("not", ANY), {()} | set(itertools.product((0, 1), repeat=2)))):
            self.assertEqual(words_told(pattern, 2, 2), words)
        self.assertEqual(words_had(machine_of(ONE, 2), 2, 2), {(1,)})
        self.assertEqual([most_others(ANY), most_others(ONE), most_others(("or", ("not", ONE), ANY))], [0, 0, 2])


if __name__ == "__main__":
    unittest.main()

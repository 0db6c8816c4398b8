import itertools
import unittest

from samples import AROUND, AROUND_TEXTS, LEAVES, WIDES, inside, patterns_with_texts, simple_patterns
from wordyard.errors import NoPattern, NoRoom, NoText, YardError
from wordyard.reading import read
from wordyard.writing import written


def all_texts(wide, size):
    """Each text of at most so many words that is a pattern's, with the pattern."""
    by_size = {1: {}, 2: {}}
    for pattern, text in simple_patterns(wide):
        by_size[text.count(" ") + 1][text] = pattern
    for count in range(2, size + 1):
        made = by_size.setdefault(count, {})
        for name in ("not", "many"):
            for text, part in by_size[count - 1].items():
                made[name + " " + text] = (name, part)
        for name in ("then", "or", "and"):
            for ahead in range(1, count - 1):
                for text, part in by_size[ahead].items():
                    for behind, other in by_size[count - 1 - ahead].items():
                        made[name + " " + text + " " + behind] = (name, part, other)
    texts = {}
    for count in range(1, size + 1):
        texts.update(by_size[count])
    return texts


class Read(unittest.TestCase):
    def reads(self, text, wide, pattern):
        # By repr, for Python takes True for 1.
        self.assertEqual(repr(read(text, wide)), repr(pattern), (text, wide))

    def refuses(self, text, wide):
        for name in (NoText, YardError, ValueError):
            try:
                pattern = read(text, wide)
            except name as refusal:
                self.assertIsInstance(refusal, NoText)
                self.assertNotIsInstance(refusal, (NoPattern, NoRoom))
            else:
                self.fail(f"{text[:200]!r} of {wide} letters was read as {pattern!r}")

    def reads_or_refuses(self, text, wide, texts):
        if text in texts:
            self.reads(text, wide, texts[text])
        else:
            self.refuses(text, wide)


class Patterns(Read):
    def test_each_form(self):
        texts = [
            ("none", ("none",)),
            ("empty", ("empty",)),
            ("any", ("any",)),
            ("letter 0", ("letter", 0)),
            ("then any none", ("then", ("any",), ("none",))),
            ("or empty letter 0", ("or", ("empty",), ("letter", 0))),
            ("and letter 0 any", ("and", ("letter", 0), ("any",))),
            ("not none", ("not", ("none",))),
            ("many letter 0", ("many", ("letter", 0))),
        ]
        for wide in WIDES:
            for text, pattern in texts:
                self.reads(text, wide, pattern)

    def test_each_letter_and_the_one_beyond(self):
        for wide in WIDES:
            for k in range(wide):
                self.reads("letter " + "012"[k], wide, ("letter", k))
            for k in range(wide, 10):
                self.refuses("letter " + str(k), wide)
                self.refuses("not letter " + str(k), wide)
                self.refuses("then letter 0 letter " + str(k), wide)

    def test_patterns_in_patterns(self):
        for wide in WIDES:
            for pattern, text in patterns_with_texts(wide):
                self.reads(text, wide, pattern)

    def test_what_is_written_is_read_again(self):
        for wide in WIDES:
            for pattern, text in patterns_with_texts(wide):
                for around in AROUND:
                    deeper = around(around(pattern))
                    self.reads(written(deeper, wide), wide, deeper)

    def test_a_pattern_several_deep(self):
        pattern = ("then", ("many", ("or", ("letter", 0), ("letter", 1))), ("not", ("and", ("any",), ("letter", 2))))
        text = "then many or letter 0 letter 1 not and any letter 2"
        self.reads(text, 3, pattern)
        self.refuses(text, 2)
        self.refuses(text, 1)

    def test_the_parts_stand_in_their_order(self):
        self.reads("then then letter 0 letter 1 letter 2", 3,
                   ("then", ("then", ("letter", 0), ("letter", 1)), ("letter", 2)))
        self.reads("then letter 0 then letter 1 letter 2", 3,
                   ("then", ("letter", 0), ("then", ("letter", 1), ("letter", 2))))

    def test_a_long_text(self):
        pattern, text = ("letter", 1), "letter 1"
        for _ in range(12):
            pattern, text = ("or", pattern, ("not", pattern)), "or " + text + " not " + text
        self.reads(text, 2, pattern)
        self.refuses(text, 1)
        self.refuses(text + " any", 2)
        self.refuses(text[:-2], 2)


class Depths(Read):
    def test_in_forty_others_but_not_in_more(self):
        for around, (ahead, behind) in zip(AROUND, AROUND_TEXTS):
            for leaf, text in LEAVES:
                for wide in WIDES:
                    for times in (39, 40):
                        self.reads(ahead * times + text + behind * times, wide, inside(leaf, around, times))
                    for times in (41, 42, 60):
                        self.refuses(ahead * times + text + behind * times, wide)

    def test_the_two_parts_are_counted_apart(self):
        deep = inside(("any",), AROUND[0], 39)
        for name in ("then", "or", "and"):
            self.reads(name + " " + "not " * 39 + "any " + "not " * 39 + "any", 2, (name, deep, deep))
            self.refuses(name + " " + "not " * 40 + "any any", 2)
            self.refuses(name + " any " + "not " * 40 + "any", 2)

    def test_far_too_deep(self):
        for ahead, behind in AROUND_TEXTS:
            for times in (1000, 50000):
                self.refuses(ahead * times + "any" + behind * times, 2)
                self.refuses((ahead * times).strip(" "), 2)


class Refusals(Read):
    def test_the_empty_text_and_blanks_alone(self):
        for wide in WIDES:
            for text in ("", " ", "  ", "\t", "\n", "\r\n", " \n "):
                self.refuses(text, wide)

    def test_all_short_rows_of_words(self):
        words = ["none", "empty", "any", "letter", "then", "or", "and", "not", "many", "0", "1", "2", "3", "", "some"]
        for wide in WIDES:
            texts = all_texts(wide, 4)
            read_ones = 0
            for size in range(1, 5):
                for row in itertools.product(words, repeat=size):
                    text = " ".join(row)
                    self.reads_or_refuses(text, wide, texts)
                    read_ones += text in texts
            self.assertEqual(read_ones, len(texts))

    def test_a_sign_more_less_or_other(self):
        signs = [chr(k) for k in range(32, 127)] + ["\t", "\n", "\r"]
        for wide in WIDES:
            texts = all_texts(wide, 5)
            for text in ("none", "empty", "any", "letter 0", "not any", "many letter 0", "then any none",
                         "or letter 0 any", "and none empty"):
                for place in range(len(text) + 1):
                    self.reads_or_refuses(text[:place] + text[place + 1:], wide, texts)
                    for sign in signs:
                        self.reads_or_refuses(text[:place] + sign + text[place:], wide, texts)
                        self.reads_or_refuses(text[:place] + sign + text[place + 1:], wide, texts)

    def test_other_gaps_ahead_behind_and_between(self):
        for text in ("any", "letter 0", "not any", "then letter 0 many any"):
            for gap in (" ", "  ", "\t", "\n", "\r\n", " \t", "\t ", "\n ", " \n"):
                self.refuses(gap + text, 2)
                self.refuses(text + gap, 2)
                self.refuses(gap + text + gap, 2)
                if " " in text and gap != " ":
                    self.refuses(text.replace(" ", gap), 2)
                    self.refuses(text.replace(" ", gap, 1), 2)
                    self.refuses(gap.join(text.rsplit(" ", 1)), 2)
            if " " in text:
                self.refuses(text.replace(" ", ""), 2)

    def test_a_word_less_or_more(self):
        for wide in WIDES:
            for pattern, text in patterns_with_texts(wide):
                words = text.split(" ")
                self.refuses(" ".join(words[:-1]), wide)
                for more in ("any", "none", "not any", "letter 0", "0", "letter", "not", "then"):
                    self.refuses(text + " " + more, wide)

    def test_words_that_are_none(self):
        for word in ("some", "None", "ANY", "Any", "anyany", "nothing", "letters", "letter0", "xor", "nor", "if", "~",
                     "(none)", "\"any\"", "('any',)", "any,", "any.", "-", "pattern", "true", "True"):
            for text in (word, word + " any", word + " any any", word + " 0", "not " + word, "then any " + word,
                         "or " + word + " any", "letter " + word, "any " + word):
                self.refuses(text, 3)

    def test_numbers_of_another_writing(self):
        for word in ("00", "01", "+0", "+1", "-0", "-1", " 1", "1 ", "\t1", "1\n", "0.0", "1.", "0x1", "1_0", "0_1", "0b1",
                     "1e0", "''", "'0'", "0,", "(0)", "zero", "a", "True", "False", "None", "", " ", "10", "000"):
            for ahead in ("letter ", "not letter ", "then letter 0 letter "):
                self.refuses(ahead + word, 3)
            self.refuses("or letter " + word + " any", 3)

    def test_numbers_where_none_belongs(self):
        for wide in WIDES:
            for text in ("0", "1", "0 0", "none 0", "any 0", "empty 1", "not 0", "many 0", "then 0 0", "then any 0",
                         "or 0 any", "and letter 0 0", "letter 0 0", "letter", "letter letter 0", "letter any",
                         "not letter", "then letter letter 0", "0 letter", "0 any"):
                self.refuses(text, wide)


class Again(Read):
    def test_no_answer_hangs_on_what_was_read_before(self):
        for _ in range(2):
            self.reads("or letter 0 letter 1", 2, ("or", ("letter", 0), ("letter", 1)))
            self.refuses("or letter 0 letter 1", 1)
            self.refuses("or letter 0 letter 1 any", 2)
            self.refuses("or letter 0", 2)


if __name__ == "__main__":
    unittest.main()

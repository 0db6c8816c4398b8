import reprlib
import unittest

from samples import AROUND, AROUND_TEXTS, LEAVES, WIDES, inside, no_patterns, patterns_with_texts
from wordyard.errors import NoPattern, NoRoom, NoText, YardError
from wordyard.writing import written


class Writing(unittest.TestCase):
    def test_the_text_of_each_form(self):
        texts = [
            (("none",), "none"),
            (("empty",), "empty"),
            (("any",), "any"),
            (("letter", 0), "letter 0"),
            (("then", ("any",), ("none",)), "then any none"),
            (("or", ("empty",), ("letter", 0)), "or empty letter 0"),
            (("and", ("letter", 0), ("any",)), "and letter 0 any"),
            (("not", ("none",)), "not none"),
            (("many", ("letter", 0)), "many letter 0"),
        ]
        for wide in WIDES:
            for pattern, text in texts:
                self.assertEqual(written(pattern, wide), text)

    def test_the_text_of_each_letter(self):
        for wide in WIDES:
            for k in range(wide):
                self.assertEqual(written(("letter", k), wide), "letter " + "012"[k])

    def test_patterns_in_patterns(self):
        for wide in WIDES:
            for pattern, text in patterns_with_texts(wide):
                self.assertEqual(written(pattern, wide), text)

    def test_a_pattern_several_deep(self):
        pattern = ("then", ("many", ("or", ("letter", 0), ("letter", 1))), ("not", ("and", ("any",), ("letter", 2))))
        self.assertEqual(written(pattern, 3), "then many or letter 0 letter 1 not and any letter 2")

    def test_the_answer_is_a_text(self):
        for pattern, text in patterns_with_texts(3):
            self.assertIsInstance(written(pattern, 3), str)

    def test_in_forty_others(self):
        for around, (ahead, behind) in zip(AROUND, AROUND_TEXTS):
            for leaf, text in LEAVES:
                for wide in WIDES:
                    expected = ahead * 40 + text + behind * 40
                    self.assertEqual(written(inside(leaf, around, 40), wide), expected)

    def test_in_more_than_forty_others(self):
        for around in AROUND:
            for leaf, text in LEAVES:
                for wide in WIDES:
                    for times in (41, 42, 60):
                        with self.assertRaises(NoPattern):
                            written(inside(leaf, around, times), wide)

    def test_what_is_no_pattern_is_not_written(self):
        for thing, wide in no_patterns():
            for name in (NoPattern, YardError, ValueError):
                try:
                    text = written(thing, wide)
                except name as refusal:
                    self.assertIsInstance(refusal, NoPattern)
                    self.assertNotIsInstance(refusal, (NoText, NoRoom))
                else:
                    # Shortened: some of the deep things can't be written out whole.
                    self.fail(f"{reprlib.repr(thing)} of {wide} letters was written as {reprlib.repr(text)}")

    def test_a_pattern_of_more_letters_than_asked(self):
        pattern = ("or", ("letter", 0), ("then", ("letter", 1), ("letter", 2)))
        self.assertEqual(written(pattern, 3), "or letter 0 then letter 1 letter 2")
        for wide in (1, 2):
            with self.assertRaises(NoPattern):
                written(pattern, wide)

    def test_what_is_handed_in_stays_and_is_told_the_same_again(self):
        pattern = ("or", ("letter", 0), ("not", ("letter", 1)))
        for _ in range(2):
            self.assertEqual(written(pattern, 2), "or letter 0 not letter 1")
            self.assertEqual(pattern, ("or", ("letter", 0), ("not", ("letter", 1))))
        for thing in (["not", ("any",)], ("not", ["any"]), ("or", ("any",), [])):
            before = repr(thing)
            for _ in range(2):
                with self.assertRaises(NoPattern):
                    written(thing, 2)
                self.assertEqual(repr(thing), before)

    def test_a_refusal_does_not_hang_on_what_was_written_before(self):
        for _ in range(2):
            self.assertEqual(written(("letter", 1), 2), "letter 1")
            with self.assertRaises(NoPattern):
                written(("letter", True), 2)
            with self.assertRaises(NoPattern):
                written(("letter", 1), 1)


if __name__ == "__main__":
    unittest.main()

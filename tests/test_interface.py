"""The names of the document's interface: each stands in its file, with its arguments under their names."""

import importlib
import inspect
import unittest

INTERFACE = {
    "things": ("is_word(thing, wide)", "is_pattern(thing, wide)", "is_machine(thing, wide)"),
    "writing": ("written(pattern, wide)",),
    "reading": ("read(text, wide)",),
    "machines": ("behind(machine, state, word)", "has(machine, word)", "least(machine)", "is_least(thing, wide)"),
    "pairs": ("both(one, other)", "either(one, other)", "apart(one, other)", "turned_out(machine)"),
    "rows": ("joined(one, other, wide)", "repeated(machine, wide)", "backward(machine, wide)"),
    "making": ("machine_of(pattern, wide)",),
    "telling": ("cut(machine, word)", "heads(machine)", "first_word(machine)", "parting(one, other)",
                "longest(machine)", "lies_in(one, other)"),
    "counting": ("count_of(machine, size)", "words_of(machine, size)"),
    "patterns": ("pattern_of(machine)",),
}


class Interface(unittest.TestCase):
    def test_names_and_arguments(self):
        for file, entries in INTERFACE.items():
            module = importlib.import_module("wordyard." + file)
            for entry in entries:
                ask = getattr(module, entry.partition("(")[0])
                self.assertEqual(ask.__name__ + str(inspect.signature(ask)), entry)
                self.assertEqual(ask.__module__, module.__name__)


if __name__ == "__main__":
    unittest.main()

"""Reads a text to the pattern of which it is the writing."""

from wordyard.errors import NoText
from wordyard.things import MOST_OTHERS, PARTS


class Reader:
    def __init__(self, text, wide):
        # Parted at blanks alone: a tab or a row's end stays within its word, which is refused for it,
        # and a blank too many leaves an empty word, which is refused too.
        self.words = text.split(" ")
        self.place = 0
        self.wide = wide

    def taken(self):
        if self.place == len(self.words):
            raise NoText("the text ends ahead of its pattern")
        self.place += 1
        return self.words[self.place - 1]

    def letter(self):
        word = self.taken()
        # Each number is compared as it is written, since int would take 00 and +1 as well.
        for number in range(self.wide):
            if word == str(number):
                return ("letter", number)
        raise NoText("no letter's number stands behind letter")

    def pattern(self, others):
        # Others is asked first: it also bounds the recursion, however long the text is.
        if others > MOST_OTHERS:
            raise NoText("a pattern lies in too many others")
        name = self.taken()
        if name == "letter":
            return self.letter()
        if name not in PARTS:
            raise NoText("no pattern begins with such a word")
        return tuple([name] + [self.pattern(others + 1) for part in range(PARTS[name])])


def read(text, wide):
    reader = Reader(text, wide)
    pattern = reader.pattern(0)
    if reader.place < len(reader.words):
        raise NoText("the text goes on behind its pattern")
    return pattern

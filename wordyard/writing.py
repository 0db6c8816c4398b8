"""Writes a pattern as a text."""

from wordyard.errors import NoPattern
from wordyard.things import is_pattern


def text_of(pattern):
    if pattern[0] == "letter":
        return " ".join(["letter", str(pattern[1])])
    return " ".join([pattern[0]] + [text_of(part) for part in pattern[1:]])


def written(pattern, wide):
    if not is_pattern(pattern, wide):
        raise NoPattern("this is no pattern of so many letters")
    return text_of(pattern)

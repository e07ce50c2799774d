"""Kinds and faces that several tests use."""

from sealhouse.faces import face_of
from sealhouse.reading import read_house

ONE = ("num", 1)
TWO = ("num", 2)


def own(word):
    return ("name", "", word)


def far(part, word):
    return ("name", part, word)


def pair(first, second):
    return ("pair", first, second)


def wide(words, last=ONE):
    """A kind of just so many words, an odd number: pairs of nums, and `last` as its last word."""
    kind = last
    for each in range(words // 2):
        kind = pair(ONE, kind)
    return kind


def face(text, parts=None):
    """The Face of items written in a text."""
    return face_of(read_house(f"(face f {text})")[0][2], parts or {})

"""Kinds, faces and items that several tests use, and a test case that compares Faces."""

import unittest

from sealhouse.errors import NoFit
from sealhouse.expressions import rebuilt, within
from sealhouse.faces import face_of
from sealhouse.reading import read_house

ONE = ("num", 1)
TWO = ("num", 2)


def own(word):
    return ("name", "", word)


def far(part, word):
    return ("name", part, word)


def pair(first, second):
    return ("pair", first, second)


def wide(words, last=ONE):
    """A kind of just so many words, an odd number: pairs of nums, and `last` as its last word."""
    kind = last
    for each in range(words // 2):
        kind = pair(ONE, kind)
    return kind


def face(text, parts=None):
    """The Face of items written in a text."""
    return face_of(read_house(f"(face f {text})")[0][2], parts or {})


def items(text):
    """A part's items, written in a text."""
    return read_house(f"(part p bare {text})")[0][3]


def seal(text):
    """A seal, written in a text."""
    return read_house(f"(part p {text})")[0][2]


def sums(count):
    """An expression, written, of a weight of just so much, an odd number, and of few levels."""
    if count == 1:
        return "(lit 1 10)"
    left = (count - 1) // 2
    left -= 1 - left % 2
    return f"(+ 10 {sums(left)} {sums(count - 1 - left)})"


def exchanged_calls(expression, part):
    """An expression in which that part's functions of the same words are called."""
    told = rebuilt(expression, [exchanged_calls(each, part) for each in within(expression)])
    return ("call", part) + told[2:] if told[0] == "call" else told


class SameTest(unittest.TestCase):
    def same(self, one, kinds, funs):
        """Whether a Face has just these words, in this order."""
        self.assertEqual(list(one.kinds.items()), list(kinds.items()))
        self.assertEqual(list(one.funs.items()), list(funs.items()))

    def no_fit(self, part, name, due, found, call):
        """Whether a call is refused with NoFit of these fields."""
        with self.assertRaises(NoFit) as caught:
            call()
        error = caught.exception
        self.assertEqual((error.part, error.name, error.due, error.found), (part, name, due, found))

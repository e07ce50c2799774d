"""The refusals: fifteen classes under Refused, none under another one."""

import unittest

from sealhouse import errors

NAMES = (
    "NoTree", "NoForm", "NoKind", "NoName", "Twice", "TooBig", "Clash", "WrongKind",
    "NoCount", "BadOrder", "TooHeavy", "NotPlain", "NoMark", "TooWide", "NoFit",
)


def made(name):
    maker = getattr(errors, name)
    if name == "NoFit":
        return maker("p", "t", ("num", 2), None)
    return maker("some words")


class ErrorsTest(unittest.TestCase):
    def test_each_is_caught_as_refused_and_as_value_error(self):
        self.assertEqual(len(set(NAMES)), 15)
        for name in NAMES:
            for wide in (errors.Refused, ValueError):
                with self.subTest(name=name, wide=wide.__name__):
                    with self.assertRaises(wide):
                        raise made(name)

    def test_refused_itself(self):
        with self.assertRaises(ValueError) as caught:
            raise errors.Refused("some words")
        self.assertEqual(str(caught.exception), "some words")
        for name in NAMES:
            self.assertNotIsInstance(caught.exception, getattr(errors, name))

    def test_none_is_caught_as_another_one(self):
        for name in NAMES:
            for other in NAMES:
                with self.subTest(name=name, other=other):
                    self.assertEqual(isinstance(made(name), getattr(errors, other)), name == other)

    def test_the_text_is_kept(self):
        for name in NAMES:
            if name != "NoFit":
                self.assertEqual(str(made(name)), "some words")

    def test_no_fit_keeps_its_four_fields(self):
        due = ((("num", 2), ("name", "", "t")), ("num", 3))
        error = errors.NoFit("one", "tick", due, None)
        self.assertEqual((error.part, error.name, error.due, error.found), ("one", "tick", due, None))
        named = errors.NoFit(part="", name="t", due=None, found=("num", 2))
        self.assertEqual((named.part, named.name, named.due, named.found), ("", "t", None, ("num", 2)))
        with self.assertRaises(errors.NoFit) as caught:
            raise error
        self.assertEqual(caught.exception.due, due)


if __name__ == "__main__":
    unittest.main()

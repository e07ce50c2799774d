"""Trees, read from texts and written again [5]."""

import unittest

from sealhouse.errors import NoTree
from sealhouse.trees import text_of, trees_of


def nested(depth, inner=()):
    """A tuple around `inner`, so that brackets nest `depth` deep."""
    tree = inner
    for each in range(depth - 1):
        tree = (tree,)
    return tree


class ReadTest(unittest.TestCase):
    def test_words_and_brackets(self):
        self.assertEqual(trees_of("a"), ["a"])
        self.assertEqual(trees_of("(a (b c) ())"), [("a", ("b", "c"), ())])
        self.assertEqual(trees_of("a (b) c"), ["a", ("b",), "c"])
        self.assertEqual(trees_of("one.tick + 12 <=~!"), ["one.tick", "+", "12", "<=~!"])

    def test_the_empty_text_and_the_empty_bracket(self):
        self.assertEqual(trees_of(""), [])
        self.assertEqual(trees_of(" \n  \n"), [])
        self.assertEqual(trees_of("()"), [()])
        self.assertEqual(trees_of("( \n )"), [()])
        self.assertEqual(trees_of("()()"), [(), ()])

    def test_no_blanks_are_needed_beside_brackets(self):
        self.assertEqual(trees_of("a(b(c)d)e"), ["a", ("b", ("c",), "d"), "e"])
        self.assertEqual(trees_of("(a)(b)"), [("a",), ("b",)])

    def test_many_blanks_and_line_feeds(self):
        self.assertEqual(trees_of("\n\n  (  a\nb   \n\n c )\n d  "), [("a", "b", "c"), "d"])

    def test_only_blanks_and_line_feeds_part_words(self):
        self.assertEqual(trees_of("a\tb"), ["a\tb"])
        self.assertEqual(trees_of("a,b;c"), ["a,b;c"])

    def test_thirty_deep_and_no_deeper(self):
        self.assertEqual(trees_of("(" * 30 + ")" * 30), [nested(30)])
        self.assertEqual(trees_of("(" * 30 + "a" + ")" * 30), [nested(31, "a")])
        for inner in ("", "a"):
            with self.assertRaises(NoTree):
                trees_of("(" * 31 + inner + ")" * 31)

    def test_many_brackets_that_do_not_nest(self):
        self.assertEqual(trees_of("()" * 100), [()] * 100)
        deep = "(" * 30 + ")" * 30
        self.assertEqual(trees_of(deep + deep), [nested(30)] * 2)
        self.assertEqual(trees_of("(" + "(" * 29 + ")" * 29 + "(" * 29 + ")" * 29 + ")"), [(nested(29), nested(29))])

    def test_brackets_that_do_not_match(self):
        for text in ("(", ")", "(a", "a)", "(a))", "((a)", ")(", "a b (c", "() )", "(a (b c)", "a\n)\n"):
            with self.subTest(text=text), self.assertRaises(NoTree):
                trees_of(text)

    def test_a_long_text(self):
        text = "(ab cd) " * 750
        self.assertEqual(len(text), 6000)
        self.assertEqual(trees_of(text), [("ab", "cd")] * 750)

    def test_the_list_is_the_askers_own(self):
        first = trees_of("a (b)")
        first.append("c")
        self.assertEqual(trees_of("a (b)"), ["a", ("b",)])


class WriteTest(unittest.TestCase):
    def test_as_told(self):
        self.assertEqual(text_of([("a", ("b", "c"), ())]), "(a (b c) ())")
        self.assertEqual(text_of([]), "")
        self.assertEqual(text_of(["a"]), "a")
        self.assertEqual(text_of([()]), "()")
        self.assertEqual(text_of(["a", "b"]), "a\nb")
        self.assertEqual(text_of([("a",), (), ("b", "c")]), "(a)\n()\n(b c)")
        self.assertEqual(text_of([((), ())]), "(() ())")

    def test_written_and_read_again(self):
        for trees in ([], ["a"], [()], [("a", ("b", "c"), ()), "d", ((("e",),),)], [nested(30)], [nested(31, "a")]):
            self.assertEqual(trees_of(text_of(trees)), trees)

    def test_read_and_written_again(self):
        self.assertEqual(text_of(trees_of("a( b  c )\n\n(d)")), "a\n(b c)\n(d)")

    def test_deeper_than_is_read(self):
        self.assertEqual(text_of([nested(40)]), "(" * 40 + ")" * 40)
        self.assertEqual(text_of([nested(3000)]), "(" * 3000 + ")" * 3000)

    def test_what_is_handed_in_stays(self):
        trees = [("a", ("b",)), "c"]
        text_of(trees)
        self.assertEqual(trees, [("a", ("b",)), "c"])


if __name__ == "__main__":
    unittest.main()

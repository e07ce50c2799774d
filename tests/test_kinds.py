"""Words, names, kinds put in, normal forms: [7], [10], [12]."""

import unittest

from samples import ONE, TWO, far, own, pair, wide
from sealhouse.errors import NoKind, TooBig
from sealhouse.faces import Face
from sealhouse.kinds import names_in, normal, put, words_in

A, B, C = own("a"), own("b"), own("c")


class WordsTest(unittest.TestCase):
    def test_words_are_nums_pairs_and_names(self):
        self.assertEqual(words_in(ONE), 1)
        self.assertEqual(words_in(A), 1)
        self.assertEqual(words_in(far("q", "t")), 1)
        self.assertEqual(words_in(pair(A, ONE)), 3)
        self.assertEqual(words_in(pair(pair(A, ONE), pair(A, far("q", "t")))), 7)
        self.assertEqual(words_in(wide(39)), 39)
        self.assertEqual(words_in(wide(41)), 41)


class NamesTest(unittest.TestCase):
    def test_each_once_from_left_to_right(self):
        self.assertEqual(names_in(ONE), [])
        self.assertEqual(names_in(A), [("", "a")])
        self.assertEqual(names_in(far("q", "a")), [("q", "a")])
        self.assertEqual(names_in(pair(B, pair(A, B))), [("", "b"), ("", "a")])
        self.assertEqual(names_in(pair(pair(C, far("q", "a")), pair(pair(A, C), pair(B, far("r", "a"))))),
                         [("", "c"), ("q", "a"), ("", "a"), ("", "b"), ("r", "a")])

    def test_the_list_is_the_askers_own(self):
        kind = pair(A, B)
        names_in(kind).append(("", "z"))
        self.assertEqual(names_in(kind), [("", "a"), ("", "b")])


class PutTest(unittest.TestCase):
    def test_names_are_exchanged(self):
        given = {("", "a"): TWO, ("q", "a"): pair(ONE, ONE)}
        self.assertEqual(put(A, given), TWO)
        self.assertEqual(put(far("q", "a"), given), pair(ONE, ONE))
        self.assertEqual(put(pair(pair(A, B), pair(far("q", "a"), A)), given),
                         pair(pair(TWO, B), pair(pair(ONE, ONE), TWO)))

    def test_what_is_not_told_stays(self):
        kind = pair(A, pair(far("q", "a"), ONE))
        self.assertEqual(put(kind, {}), kind)
        self.assertEqual(put(kind, {("", "b"): ONE, ("r", "a"): ONE, ("q", "b"): ONE}), kind)

    def test_all_at_once(self):
        given = {("", "a"): B, ("", "b"): A}
        self.assertEqual(put(pair(A, B), given), pair(B, A))

    def test_nothing_is_exchanged_again_in_what_came_in(self):
        self.assertEqual(put(A, {("", "a"): pair(A, A)}), pair(A, A))
        self.assertEqual(put(pair(A, B), {("", "a"): pair(B, C), ("", "b"): C, ("", "c"): ONE}), pair(pair(B, C), C))

    def test_no_bound(self):
        self.assertEqual(words_in(put(wide(39, A), {("", "a"): wide(39)})), 77)

    def test_the_dict_handed_in_stays(self):
        given = {("", "b"): A, ("", "a"): TWO}
        put(pair(A, C), given)
        self.assertEqual(list(given.items()), [(("", "b"), A), (("", "a"), TWO)])


class NormalTest(unittest.TestCase):
    def setUp(self):
        self.own = {"a": TWO, "b": own("b"), "c": pair(own("b"), far("q", "t"))}
        self.parts = {"q": Face({"t": far("q", "t"), "s": pair(ONE, far("r", "u"))}, {}), "r": Face({"u": TWO}, {})}

    def normal(self, kind, most=40):
        return normal(kind, self.own, self.parts, most)

    def test_own_names_and_parts_names(self):
        self.assertEqual(self.normal(ONE), ONE)
        self.assertEqual(self.normal(A), TWO)
        self.assertEqual(self.normal(B), B)
        self.assertEqual(self.normal(pair(C, A)), pair(pair(B, far("q", "t")), TWO))
        self.assertEqual(self.normal(pair(far("q", "t"), far("r", "u"))), pair(far("q", "t"), TWO))

    def test_exchanged_once(self):
        self.assertEqual(self.normal(far("q", "s")), pair(ONE, far("r", "u")))
        swapped = {"a": B, "b": pair(A, A)}
        self.assertEqual(normal(pair(A, B), swapped, {}), pair(B, pair(A, A)))

    def test_no_kind(self):
        for kind in (own("z"), own("t"), far("q", "a"), far("r", "t"), far("z", "t"), far("z", "a"),
                     pair(A, own("z")), pair(far("z", "t"), A)):
            with self.subTest(kind=kind), self.assertRaises(NoKind):
                self.normal(kind)
        with self.assertRaises(NoKind):
            normal(A, {}, {})

    def test_own_names_are_no_parts_names(self):
        with self.assertRaises(NoKind):
            normal(A, {}, {"": Face({"a": ONE}, {})})
        with self.assertRaises(NoKind):
            normal(far("q", "a"), {"a": ONE}, {"q": Face({}, {})})

    def test_forty_words_are_the_most(self):
        # A kind's words are always odd in number: 39 is the greatest below the bound, 41 the least above.
        kind = wide(21, A)
        self.assertEqual(words_in(normal(kind, {"a": wide(19)}, {})), 39)
        with self.assertRaises(TooBig):
            normal(kind, {"a": wide(21)}, {})
        with self.assertRaises(TooBig):
            normal(wide(41), {}, {})
        with self.assertRaises(TooBig):
            normal(far("q", "t"), {}, {"q": Face({"t": wide(41)}, {})})

    def test_another_most(self):
        kind = pair(A, A)
        self.assertEqual(self.normal(kind, 3), pair(TWO, TWO))
        self.assertEqual(normal(wide(41), {}, {}, most=41), wide(41))
        with self.assertRaises(TooBig):
            self.normal(kind, 2)
        with self.assertRaises(TooBig):
            normal(wide(43), {}, {}, most=42)

    def test_what_is_handed_in_stays(self):
        self.normal(pair(C, far("q", "s")))
        self.assertEqual(self.own, {"a": TWO, "b": B, "c": pair(B, far("q", "t"))})
        self.assertEqual(list(self.parts), ["q", "r"])
        self.assertEqual(self.parts["q"].kinds, {"t": far("q", "t"), "s": pair(ONE, far("r", "u"))})


if __name__ == "__main__":
    unittest.main()

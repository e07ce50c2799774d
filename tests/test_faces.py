"""Faces: made, refined, fitted, compared: [11], [13] to [16]."""

import itertools
import unittest

from samples import ONE, TWO, SameTest, face, far, own, pair, wide
from sealhouse.errors import NoFit, NoKind, TooBig, Twice
from sealhouse.faces import Face, fitted, least, refined, under

A, B, S, T = own("a"), own("b"), own("s"), own("t")


class FaceTest(SameTest):
    def test_copies_of_both_dicts_in_their_order(self):
        kinds = {"t": T, "a": ONE}
        funs = {"g": ((T,), ONE), "f": ((), T)}
        made = Face(kinds, funs)
        kinds["z"] = ONE
        funs.clear()
        self.same(made, {"t": T, "a": ONE}, {"g": ((T,), ONE), "f": ((), T)})
        made.kinds["y"] = ONE
        self.assertEqual(kinds, {"t": T, "a": ONE, "z": ONE})

    def test_hidden_words_in_their_order(self):
        made = Face({"t": T, "b": ONE, "a": A, "s": T, "q": far("q", "q"), "p": pair(T, A)}, {"f": ((), T)})
        self.assertEqual(made.hidden(), ["t", "a"])
        self.assertEqual(Face({}, {}).hidden(), [])
        made.hidden().append("z")
        self.assertEqual(made.hidden(), ["t", "a"])

    def test_put(self):
        made = Face({"t": T, "a": A, "s": pair(T, A)}, {"g": ((T, A), T), "f": ((), far("q", "u"))})
        given = {("", "t"): pair(A, ONE), ("", "a"): TWO, ("q", "u"): T}
        other = made.put(given)
        self.same(other, {"t": pair(A, ONE), "a": TWO, "s": pair(pair(A, ONE), TWO)},
                  {"g": ((pair(A, ONE), TWO), pair(A, ONE)), "f": ((), T)})
        self.same(made, {"t": T, "a": A, "s": pair(T, A)}, {"g": ((T, A), T), "f": ((), far("q", "u"))})
        self.assertEqual(given, {("", "t"): pair(A, ONE), ("", "a"): TWO, ("q", "u"): T})

    def test_put_gives_a_new_face(self):
        made = Face({"t": T}, {"f": ((), T)})
        other = made.put({})
        self.same(other, {"t": T}, {"f": ((), T)})
        other.kinds["a"] = ONE
        other.funs.clear()
        self.same(made, {"t": T}, {"f": ((), T)})

    def test_put_is_refused_just_above_most(self):
        for made in (Face({"t": T, "s": pair(T, ONE)}, {}), Face({"t": T}, {"f": ((ONE, pair(T, ONE)), ONE)}),
                     Face({"t": T}, {"f": ((), pair(T, ONE))})):
            self.assertIsInstance(made.put({("", "t"): wide(37)}), Face)
            with self.assertRaises(TooBig):
                made.put({("", "t"): wide(39)})
            self.assertIsInstance(made.put({("", "t"): wide(3)}, 5), Face)
            self.assertIsInstance(made.put({("", "t"): wide(39)}, most=41), Face)
            with self.assertRaises(TooBig):
                made.put({("", "t"): wide(3)}, 4)
            with self.assertRaises(TooBig):
                made.put({("", "t"): wide(39)}, most=40)

    def test_put_counts_kinds_in_which_nothing_is_put(self):
        with self.assertRaises(TooBig):
            Face({"t": wide(41)}, {}).put({})


class FaceOfTest(SameTest):
    def test_items_in_their_order(self):
        made = face("(hid t) (fun g (t) (num 1)) (told a (pair t (num 2))) (fun f () a) (told s t) (hid b)")
        self.same(made, {"t": T, "a": pair(T, TWO), "s": T, "b": B}, {"g": ((T,), ONE), "f": ((), pair(T, TWO))})
        self.same(face(""), {}, {})

    def test_words_ahead_stand_for_their_kinds(self):
        made = face("(told a (num 2)) (told b (pair a a)) (hid t) (told s (pair b t)) (fun f (a b s) s)")
        ab = pair(TWO, TWO)
        self.same(made, {"a": TWO, "b": ab, "t": T, "s": pair(ab, T)}, {"f": ((TWO, ab, pair(ab, T)), pair(ab, T))})

    def test_kinds_of_parts(self):
        parts = {"q": Face({"u": far("q", "u"), "v": pair(ONE, far("r", "w"))}, {})}
        made = face("(told a q.u) (told b (pair a q.v)) (fun f (q.u) b)", parts)
        both = pair(far("q", "u"), pair(ONE, far("r", "w")))
        self.same(made, {"a": far("q", "u"), "b": both}, {"f": ((far("q", "u"),), both)})
        self.assertEqual(list(parts), ["q"])

    def test_twice(self):
        for text in ("(hid t) (hid t)", "(hid t) (told t (num 1))", "(told t (num 1)) (hid t)",
                     "(told t (num 1)) (told t (num 1))", "(fun f () (num 1)) (fun f () (num 1))",
                     "(fun f () (num 1)) (hid t) (fun f (t) t)"):
            with self.subTest(text=text), self.assertRaises(Twice):
                face(text)

    def test_a_kind_and_a_function_of_one_word(self):
        self.same(face("(hid t) (fun t () t)"), {"t": T}, {"t": ((), T)})
        self.same(face("(fun t () (num 1)) (told t (num 2))"), {"t": TWO}, {"t": ((), ONE)})

    def test_words_that_are_told_only_behind(self):
        for text in ("(told a t) (hid t)", "(fun f (t) (num 1)) (hid t)", "(fun f () t) (hid t)", "(told t t)",
                     "(told t (pair t t))", "(told a b) (told b (num 1))"):
            with self.subTest(text=text), self.assertRaises(NoKind):
                face(text)

    def test_no_kind(self):
        parts = {"q": Face({"u": ONE}, {"f": ((), ONE)})}
        for text in ("(told a z)", "(told a q.z)", "(told a q.f)", "(told a z.u)", "(fun f (z) (num 1))", "(fun f () z.u)",
                     "(fun f () (num 1)) (told a f)"):
            with self.subTest(text=text), self.assertRaises(NoKind):
                face(text, parts)

    def test_forty_words_are_the_most(self):
        parts = {"q": Face({"u": wide(39), "v": wide(37)}, {})}
        self.assertEqual(face("(told a q.u)", parts).kinds["a"], wide(39))
        self.assertEqual(face("(told a (pair (num 1) q.v))", parts).kinds["a"], wide(39))
        for text in ("(told a (pair (num 1) q.u))", "(fun f ((pair (num 1) q.u)) (num 1))", "(fun f () (pair (num 1) q.u))"):
            with self.subTest(text=text), self.assertRaises(TooBig):
                face(text, parts)

    def test_kinds_that_double(self):
        doubling = "(told a (num 1)) (told b (pair a a)) (told c (pair b b)) (told d (pair c c)) (told e (pair d d))"
        self.assertEqual(len(face(doubling).kinds), 5)
        with self.assertRaises(TooBig):
            face(doubling + " (told f (pair e e))")

    def test_sixteen_kinds_and_sixteen_functions(self):
        words = "abcdefghijklmnop"
        text = "(hid a) " + " ".join(f"(told {word} a)" for word in words[1:])
        text += " ".join(f"(fun {word} ({word} {word} {word} {word}) {word})" for word in words)
        made = face(text)
        self.assertEqual(list(made.kinds), list(words))
        self.assertEqual(list(made.funs), list(words))
        self.assertEqual(set(made.kinds.values()), {A})
        self.assertEqual(set(made.funs.values()), {((A,) * 4, A)})


class RefinedTest(SameTest):
    def test_one_behind_the_other(self):
        made = face("(hid t) (told s (pair t t)) (hid a) (fun f (t a) s)")
        other = refined(made, (("a", TWO), ("t", pair(ONE, far("q", "u")))))
        t = pair(ONE, far("q", "u"))
        self.same(other, {"t": t, "s": pair(t, t), "a": TWO}, {"f": ((t, TWO), pair(t, t))})
        self.same(made, {"t": T, "s": pair(T, T), "a": A}, {"f": ((T, A), pair(T, T))})

    def test_no_withs(self):
        made = face("(hid t) (fun f () t)")
        other = refined(made, ())
        self.same(other, {"t": T}, {"f": ((), T)})
        other.kinds.clear()
        other.funs.clear()
        self.same(made, {"t": T}, {"f": ((), T)})

    def test_two_words_that_have_one_hidden_kind(self):
        made = face("(hid t) (told s t) (fun f (s) t)")
        self.same(refined(made, (("t", TWO),)), {"t": TWO, "s": TWO}, {"f": ((TWO,), TWO)})
        with self.assertRaises(NoKind):
            refined(made, (("s", TWO),))

    def test_no_kind(self):
        made = face("(hid t) (told s (pair t t)) (told a (num 1)) (fun f () t)")
        for withs in ((("z", TWO),), (("s", TWO),), (("a", TWO),), (("f", TWO),), (("t", TWO), ("t", TWO)),
                      (("t", TWO), ("t", ONE)), (("t", TWO), ("z", TWO))):
            with self.subTest(withs=withs), self.assertRaises(NoKind):
                refined(made, withs)

    def test_forty_words_are_the_most(self):
        for text in ("(hid t) (told s (pair t (num 1)))", "(hid t) (fun f ((pair t (num 1))) (num 1))",
                     "(hid t) (fun f () (pair t (num 1)))"):
            self.assertEqual(refined(face(text), (("t", wide(37)),)).kinds["t"], wide(37))
            with self.assertRaises(TooBig):
                refined(face(text), (("t", wide(39)),))
        made = face("(hid t) (hid s) (told a (pair t s))")
        self.assertEqual(refined(made, (("t", wide(19)), ("s", wide(19)))).kinds["a"], pair(wide(19), wide(19)))
        with self.assertRaises(TooBig):
            refined(made, (("t", wide(19)), ("s", wide(21))))

    def test_what_is_handed_in_stays(self):
        withs = [("t", TWO)]
        refined(face("(hid t)"), withs)
        self.assertEqual(withs, [("t", TWO)])


class FittedTest(unittest.TestCase):
    def misfit(self, had, wanted, *fields):
        with self.assertRaises(NoFit) as caught:
            fitted(had, wanted, "p")
        error = caught.exception
        self.assertEqual((error.part, error.name, error.due, error.found), ("p",) + fields)

    def test_the_dict_that_is_told(self):
        wanted = face("(hid t) (told a (pair t (num 1))) (hid b) (fun f (t b) a)")
        had = Face({"b": far("q", "u"), "t": TWO, "a": pair(TWO, ONE), "z": ONE},
                   {"g": ((), ONE), "f": ((TWO, far("q", "u")), pair(TWO, ONE))})
        told = fitted(had, wanted)
        self.assertEqual(list(told.items()), [(("", "t"), TWO), (("", "b"), far("q", "u"))])
        told.clear()
        self.assertEqual(len(fitted(had, wanted, "p")), 2)
        self.assertEqual(fitted(had, Face({}, {})), {})
        self.assertEqual(fitted(Face({}, {}), Face({}, {})), {})
        self.assertEqual(list(had.kinds), ["b", "t", "a", "z"])
        self.assertEqual(wanted.kinds["t"], T)

    def test_two_words_that_have_one_hidden_kind(self):
        wanted = face("(hid t) (told s t) (fun f (s) t)")
        self.assertEqual(fitted(Face({"s": TWO, "t": TWO}, {"f": ((TWO,), TWO)}), wanted), {("", "t"): TWO})
        self.misfit(Face({"s": ONE, "t": TWO}, {"f": ((TWO,), TWO)}), wanted, "s", TWO, ONE)

    def test_a_kind_word_that_lacks(self):
        wanted = face("(hid t) (told a (pair t t)) (told b (num 1))")
        self.misfit(Face({"t": TWO}, {}), wanted, "a", pair(T, T), None)
        self.misfit(Face({"a": ONE}, {}), wanted, "t", T, None)
        self.misfit(Face({"t": TWO, "a": pair(TWO, TWO)}, {"b": ((), ONE)}), wanted, "b", ONE, None)

    def test_another_kind(self):
        wanted = face("(hid t) (told a (pair t t)) (told b (num 1))")
        self.misfit(Face({"t": TWO, "a": pair(TWO, ONE), "b": ONE}, {}), wanted, "a", pair(TWO, TWO), pair(TWO, ONE))
        self.misfit(Face({"t": TWO, "a": pair(T, T), "b": ONE}, {}), wanted, "a", pair(TWO, TWO), pair(T, T))
        self.misfit(Face({"t": TWO, "a": pair(TWO, TWO), "b": TWO}, {}), wanted, "b", ONE, TWO)

    def test_a_function_that_lacks(self):
        wanted = face("(hid t) (fun f (t) (num 1))")
        self.misfit(Face({"t": TWO}, {}), wanted, "f", ((TWO,), ONE), None)
        self.misfit(Face({"t": TWO, "f": TWO}, {"g": ((TWO,), ONE)}), wanted, "f", ((TWO,), ONE), None)

    def test_a_function_of_other_kinds(self):
        wanted = face("(hid t) (fun f (t (num 1)) t)")
        due = ((TWO, ONE), TWO)
        for found in (((TWO,), TWO), ((TWO, ONE, ONE), TWO), ((), TWO), ((ONE, ONE), TWO), ((TWO, TWO), TWO),
                      ((TWO, ONE), ONE), ((TWO, ONE), T), ((ONE, TWO), TWO)):
            with self.subTest(found=found):
                self.misfit(Face({"t": TWO}, {"f": found}), wanted, "f", due, found)

    def test_the_order_in_which_things_are_found(self):
        wanted = Face({"a": ONE, "t": T, "b": T, "z": TWO}, {"g": ((T,), T), "f": ((), T)})
        kinds, funs = {"a": TWO, "t": TWO, "b": ONE}, {"f": ((), ONE)}
        self.misfit(Face({"a": TWO}, funs), wanted, "t", T, None)
        self.misfit(Face({"a": TWO, "t": TWO}, funs), wanted, "b", T, None)
        self.misfit(Face(kinds, funs), wanted, "z", TWO, None)
        kinds["z"] = TWO
        self.misfit(Face(kinds, funs), wanted, "a", ONE, TWO)
        kinds["a"] = ONE
        self.misfit(Face(kinds, funs), wanted, "b", TWO, ONE)
        kinds["b"] = TWO
        self.misfit(Face(kinds, funs), wanted, "g", ((TWO,), TWO), None)
        funs["g"] = ((TWO,), TWO)
        self.misfit(Face(kinds, funs), wanted, "f", ((), TWO), ((), ONE))
        funs["f"] = ((), TWO)
        self.assertEqual(fitted(Face(kinds, funs), wanted, "p"), {("", "t"): TWO})

    def test_a_word_that_is_wanted_first_lacks_behind_one_that_differs(self):
        wanted = Face({"a": ONE, "b": ONE}, {"f": ((), ONE), "g": ((), ONE)})
        self.misfit(Face({"a": TWO}, {}), wanted, "b", ONE, None)
        self.misfit(Face({"a": ONE, "b": ONE}, {"f": ((), TWO)}), wanted, "f", ((), ONE), ((), TWO))

    def test_the_part_as_handed_in(self):
        with self.assertRaises(NoFit) as caught:
            fitted(Face({}, {}), face("(hid t)"))
        self.assertEqual(caught.exception.part, "")

    def test_own_kinds_of_the_had_face(self):
        wanted = face("(hid t) (hid a) (fun f (t) a)")
        had = Face({"t": A, "a": A}, {"f": ((A,), A)})
        self.assertEqual(fitted(had, wanted), {("", "t"): A, ("", "a"): A})
        crossed = Face({"t": A, "a": T}, {"f": ((A,), T)})
        self.assertEqual(fitted(crossed, wanted), {("", "t"): A, ("", "a"): T})

    def test_greater_kinds_than_forty_words_are_compared(self):
        wanted = face("(hid t) (told a (pair t t))")
        had = Face({"t": wide(39), "a": pair(wide(39), wide(39))}, {})
        self.assertEqual(fitted(had, wanted), {("", "t"): wide(39)})
        self.misfit(Face({"t": wide(39), "a": ONE}, {}), wanted, "a", pair(wide(39), wide(39)), ONE)


class LeastTest(unittest.TestCase):
    def test_sorted_by_words(self):
        made = Face({"t": T, "a": ONE, "c": pair(T, TWO)}, {"g": ((T,), ONE), "f": ((), pair(T, T))})
        self.assertEqual(least(made), ((("a", ONE), ("c", pair(T, TWO)), ("t", T)),
                                       (("f", (), pair(T, T)), ("g", (T,), ONE))))
        self.assertEqual(least(Face({}, {})), ((), ()))
        self.assertEqual(list(made.kinds), ["t", "a", "c"])

    def test_the_least_word_names_a_hidden_kind(self):
        made = face("(hid t) (told s t) (told u t) (told c (pair t s)) (fun f (u) t)")
        self.assertEqual(least(made), ((("c", pair(S, S)), ("s", S), ("t", S), ("u", S)), (("f", (S,), S),)))
        kept = face("(hid s) (told t s) (fun f (t) s)")
        self.assertEqual(least(kept), ((("s", S), ("t", S)), (("f", (S,), S),)))

    def test_several_hidden_kinds(self):
        made = Face({"b": B, "t": T, "s": B, "a": T}, {"f": ((B, T), pair(T, B))})
        self.assertEqual(least(made), ((("a", A), ("b", B), ("s", B), ("t", A)), (("f", (B, A), pair(A, B)),)))

    def test_names_of_parts_stay(self):
        made = Face({"t": far("q", "t"), "a": far("q", "a")}, {})
        self.assertEqual(least(made), ((("a", far("q", "a")), ("t", far("q", "t"))), ()))
        both = Face({"t": T, "a": far("q", "t"), "b": T}, {"f": ((far("q", "t"),), T)})
        self.assertEqual(least(both), ((("a", far("q", "t")), ("b", B), ("t", B)), (("f", (far("q", "t"),), B),)))

    def test_a_greater_kind_than_forty_words(self):
        made = Face({"t": wide(41)}, {"f": ((), wide(41))})
        self.assertEqual(least(made), ((("t", wide(41)),), (("f", (), wide(41)),)))


class UnderTest(unittest.TestCase):
    def test_one_way_alone(self):
        more = face("(hid t) (hid s) (fun f () t) (fun g () s)")
        less = face("(hid t) (fun f () t)")
        self.assertIs(under(more, less), True)
        self.assertIs(under(less, more), False)
        told = face("(told t (num 2)) (fun f () t)")
        self.assertIs(under(told, less), True)
        self.assertIs(under(less, told), False)

    def test_both_ways(self):
        one = face("(hid t) (told s t) (fun f (s) t)")
        other = face("(hid s) (told t s) (fun f (t) s)")
        self.assertTrue(under(one, other) and under(other, one))
        self.assertEqual(least(one), least(other))
        self.assertTrue(under(one, one))

    def test_neither_way(self):
        one, other = face("(told t (num 1))"), face("(told t (num 2))")
        self.assertFalse(under(one, other) or under(other, one))

    def test_both_ways_just_where_the_least_forms_are_equal(self):
        faces = list(small_faces())
        self.assertGreater(len(faces), 100)
        equal = 0
        for one in faces:
            for other in faces:
                same = least(one) == least(other)
                self.assertEqual(under(one, other) and under(other, one), same)
                equal += same
        self.assertGreater(equal, len(faces))


def small_faces():
    """Faces of the words a, b, c, in several orders, hidden ones and told ones, with one function."""
    for words in (("a", "b", "c"), ("b", "a", "c"), ("c", "b", "a"), ("a", "b")):
        choices = [["hid", "(num 1)"] + list(words[:place]) for place in range(len(words))]
        for chosen in itertools.product(*choices):
            items = " ".join(f"(hid {w})" if c == "hid" else f"(told {w} {c})" for w, c in zip(words, chosen))
            for fun in ("", "(fun f (a) b)"):
                yield face(items + fun)


if __name__ == "__main__":
    unittest.main()

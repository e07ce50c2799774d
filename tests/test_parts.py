"""Parts: full faces, what seals want, seen faces: [19], [20]."""

import unittest

from samples import ONE, TWO, SameTest, face, far, items, own, pair, seal, wide
from sealhouse.errors import NoKind, NoName, TooBig, Twice
from sealhouse.faces import Face
from sealhouse.parts import full_face, seen_face, wanted
from sealhouse.writing import kind_text

T = own("t")


class FullFaceTest(SameTest):
    def setUp(self):
        self.q = Face({"t": far("q", "t"), "s": pair(far("q", "t"), far("r", "u"))},
                      {"g": ((far("q", "t"),), far("r", "u")), "f": ((), far("q", "t"))})
        self.parts = {"q": self.q, "empty": Face({}, {})}

    def test_kinds_and_functions_in_their_order(self):
        made = full_face(items(
            "(kind b (num 1)) (fun g ((x b) (y (pair b q.s))) b (lit 0 1)) (kind a (pair b q.t)) (fun f () a x)"
        ), self.parts)
        a = pair(ONE, far("q", "t"))
        self.same(made, {"b": ONE, "a": a}, {"g": ((ONE, pair(ONE, self.q.kinds["s"])), ONE), "f": ((), a)})
        self.same(full_face((), {}), {}, {})
        self.same(full_face([], self.parts), {}, {})

    def test_what_is_opened_stands_as_it_stands_there(self):
        made = full_face(items("(kind a (num 1)) (fun h () a (lit 0 1)) (open q) (kind z s)"), self.parts)
        self.same(made, {"a": ONE, "t": far("q", "t"), "s": self.q.kinds["s"], "z": self.q.kinds["s"]},
                  {"h": ((), ONE), "g": self.q.funs["g"], "f": self.q.funs["f"]})
        self.same(full_face(items("(open empty) (open empty)"), self.parts), {}, {})

    def test_opened_kinds_are_own_ones_behind_it_alone(self):
        made = full_face(items("(open q) (fun z ((x t)) s x)"), self.parts)
        self.assertEqual(made.funs["z"], ((far("q", "t"),), self.q.kinds["s"]))
        for text in ("(kind z s) (open q)", "(fun z ((x t)) (num 1) x) (open q)", "(fun z () t x) (open q)"):
            with self.assertRaises(NoKind, msg=text):
                full_face(items(text), self.parts)

    def test_what_is_opened_has_no_bound(self):
        great = Face({"t": wide(5)}, {"f": ((wide(7),), wide(9))})
        made = full_face(items("(open q)"), {"q": great}, 3)
        self.same(made, great.kinds, great.funs)
        self.assertEqual(made.hidden(), [])

    def test_own_kinds_of_items_ahead_alone(self):
        for text in ("(kind a b) (kind b (num 1))", "(kind a a)", "(kind a (pair (num 1) a))",
                     "(fun f ((x a)) (num 1) x) (kind a (num 1))", "(fun f () a x) (kind a (num 1))",
                     "(fun f () f x)"):
            with self.assertRaises(NoKind, msg=text):
                full_face(items(text), self.parts)

    def test_kinds_that_are_not_known(self):
        for text in ("(kind a q.z)", "(kind a z.t)", "(kind a q.g)", "(fun f ((x q.z)) (num 1) x)",
                     "(fun f () (pair (num 1) z.t) x)", "(kind a empty.t)"):
            with self.assertRaises(NoKind, msg=text):
                full_face(items(text), self.parts)

    def test_a_part_that_is_not_known(self):
        for text in ("(open z)", "(kind z (num 1)) (open z)", "(open q) (open t)"):
            with self.assertRaises(NoName, msg=text):
                full_face(items(text), self.parts)

    def test_words_twice(self):
        fun = "(fun f () (num 1) x)"
        for text in ("(kind a (num 1)) (kind a (num 1))", "(kind a (num 1)) (kind a (num 2))", fun + fun,
                     "(fun f ((x (num 1))) (num 1) x)" + fun, "(open q) (kind s (num 1))", "(kind s (num 1)) (open q)",
                     "(open q)" + fun, fun + "(open q)", "(open q) (open q)", "(open q) (kind t t)"):
            with self.assertRaises(Twice, msg=text):
                full_face(items(text), self.parts)

    def test_words_of_two_opened_parts(self):
        parts = {"q": Face({"t": ONE}, {}), "r": Face({"t": ONE}, {}), "s": Face({}, {"t": ((), ONE)})}
        with self.assertRaises(Twice):
            full_face(items("(open q) (open r)"), parts)
        self.same(full_face(items("(open q) (open s)"), parts), {"t": ONE}, {"t": ((), ONE)})

    def test_a_kind_and_a_function_of_one_word(self):
        made = full_face(items("(kind a (num 1)) (fun a () a x) (fun b () a x) (kind b (num 2))"), {})
        self.same(made, {"a": ONE, "b": TWO}, {"a": ((), ONE), "b": ((), ONE)})
        made = full_face(items("(kind f (num 1)) (fun s () f x) (open q)"), self.parts)
        self.assertEqual((list(made.kinds), list(made.funs)), (["f", "t", "s"], ["s", "g", "f"]))

    def test_the_bound_of_words(self):
        for text in ("(kind a (pair (num 1) q.t))", "(kind b q.t) (kind a (pair b (num 1)))",
                     "(fun f ((x (num 1)) (y (pair q.t (num 1)))) (num 1) x)", "(fun f () (pair (num 1) q.t) x)"):
            told = items(text)
            self.assertIsInstance(full_face(told, {"q": Face({"t": wide(37)}, {})}), Face, text)
            with self.assertRaises(TooBig, msg=text):
                full_face(told, {"q": Face({"t": wide(39)}, {})})
            self.assertIsInstance(full_face(told, {"q": Face({"t": wide(39)}, {})}, 41), Face, text)
            self.assertIsInstance(full_face(told, {"q": Face({"t": wide(3)}, {})}, most=5), Face, text)
            with self.assertRaises(TooBig, msg=text):
                full_face(told, {"q": Face({"t": wide(3)}, {})}, most=4)

    def test_what_is_handed_in_stays(self):
        told = list(items("(open q) (kind a t)"))
        before = list(told)
        made = full_face(told, self.parts)
        made.kinds.clear()
        made.funs["z"] = ((), ONE)
        self.assertEqual(told, before)
        self.assertEqual(list(self.parts), ["q", "empty"])
        self.assertEqual((list(self.q.kinds), list(self.q.funs)), (["t", "s"], ["g", "f"]))
        other = full_face(told, self.parts)
        self.q.kinds.clear()
        told.clear()
        self.assertEqual(list(other.kinds), ["t", "s", "a"])


class WantedTest(SameTest):
    def setUp(self):
        self.f = face("(hid t) (hid u) (told s (pair t u)) (fun g (t s) u)")
        self.faces = {"f": self.f}
        self.parts = {"q": Face({"t": far("q", "t"), "u": pair(far("q", "t"), ONE)}, {})}

    def test_a_bare_one(self):
        self.assertIsNone(wanted(None, self.faces, self.parts))
        self.assertIsNone(wanted(seal("bare"), {}, {}))

    def test_a_face_as_it_is_declared(self):
        self.same(wanted(seal("(f)"), self.faces, {}), self.f.kinds, self.f.funs)

    def test_a_face_that_is_not_declared(self):
        for text in ("(g)", "(q)", "(t (t (num 1)))"):
            with self.assertRaises(NoName, msg=text):
                wanted(seal(text), self.faces, self.parts)

    def test_withs(self):
        want = wanted(seal("(f (u q.u) (t (num 2)))"), self.faces, self.parts)
        u = pair(far("q", "t"), ONE)
        self.same(want, {"t": TWO, "u": u, "s": pair(TWO, u)}, {"g": ((TWO, pair(TWO, u)), u)})
        want = wanted(seal("(f (u (pair q.u q.t)))"), self.faces, self.parts)
        u = pair(u, far("q", "t"))
        self.same(want, {"t": T, "u": u, "s": pair(T, u)}, {"g": ((T, pair(T, u)), u)})

    def test_withs_with_own_kinds(self):
        for text in ("(f (t u))", "(f (t t))", "(f (t (pair (num 1) s)))", "(f (u (num 1)) (t u))", "(f (t q))"):
            with self.assertRaises(NoKind, msg=text):
                wanted(seal(text), self.faces, self.parts)

    def test_withs_with_kinds_that_are_not_known(self):
        for text in ("(f (t q.s))", "(f (t r.t))", "(f (t f.t))", "(f (t (pair (num 1) q.f)))"):
            with self.assertRaises(NoKind, msg=text):
                wanted(seal(text), self.faces, self.parts)

    def test_withs_for_a_word_that_is_not_hidden(self):
        for text in ("(f (s (num 1)))", "(f (z (num 1)))", "(f (g (num 1)))", "(f (t (num 1)) (t (num 1)))"):
            with self.assertRaises(NoKind, msg=text):
                wanted(seal(text), self.faces, self.parts)

    def test_withs_that_are_too_big(self):
        for text in ("(hid t) (told s (pair t (num 1)))", "(hid t) (fun g ((pair t (num 1))) t)",
                     "(hid t) (fun g () (pair (num 1) t))"):
            faces = {"f": face(text)}
            self.assertIsInstance(wanted(seal(f"(f (t {kind_text(wide(37))}))"), faces, {}), Face)
            with self.assertRaises(TooBig, msg=text):
                wanted(seal(f"(f (t {kind_text(wide(39))}))"), faces, {})
        parts = {"q": Face({"t": wide(39)}, {})}
        self.assertEqual(wanted(seal("(f (t q.t))"), {"f": face("(hid t)")}, parts).kinds["t"], wide(39))
        with self.assertRaises(TooBig):
            wanted(seal("(f (t (pair q.t (num 1))))"), {"f": face("(hid t)")}, parts)

    def test_what_is_handed_in_stays(self):
        for text in ("(f)", "(f (t q.t))"):
            want = wanted(seal(text), self.faces, self.parts)
            want.kinds.clear()
            want.funs.clear()
        self.same(self.f, {"t": T, "u": own("u"), "s": pair(T, own("u"))},
                  {"g": ((T, pair(T, own("u"))), own("u"))})
        self.assertEqual((list(self.faces), list(self.parts)), (["f"], ["q"]))
        self.assertEqual(list(self.parts["q"].kinds), ["t", "u"])


class SeenFaceTest(SameTest):
    def setUp(self):
        self.full = Face({"t": TWO, "more": ONE, "u": pair(TWO, far("q", "t")), "v": TWO},
                         {"h": ((), ONE), "f": ((TWO, ONE), pair(TWO, far("q", "t"))), "g": ((), TWO)})

    def test_a_bare_part(self):
        seen = seen_face(self.full, None, "p")
        self.same(seen, self.full.kinds, self.full.funs)
        seen.kinds.clear()
        seen.funs.clear()
        self.assertEqual((len(self.full.kinds), len(self.full.funs)), (4, 3))

    def test_hidden_kinds_are_told_with_the_word_of_the_part(self):
        want = Face({"u": own("u"), "v": T, "t": T, "w": far("q", "t")},
                    {"g": ((), T), "f": ((T, ONE), own("u"))})
        full = Face(dict(self.full.kinds, w=far("q", "t")), self.full.funs)
        seen = seen_face(full, want, "p")
        t = far("p", "t")
        u = far("p", "u")
        self.same(seen, {"u": u, "v": t, "t": t, "w": far("q", "t")}, {"g": ((), t), "f": ((t, ONE), u)})
        self.same(want, {"u": own("u"), "v": T, "t": T, "w": far("q", "t")},
                  {"g": ((), T), "f": ((T, ONE), own("u"))})

    def test_nothing_but_what_is_wanted_is_seen(self):
        self.same(seen_face(self.full, Face({}, {}), "p"), {}, {})
        want = Face({"t": TWO}, {"h": ((), ONE)})
        seen = seen_face(self.full, want, "p")
        self.same(seen, {"t": TWO}, {"h": ((), ONE)})
        seen.kinds.clear()
        self.assertEqual(want.kinds, {"t": TWO})

    def test_what_does_not_fit(self):
        p = "p"
        for want, name, due, found in (
            (Face({"z": own("z")}, {}), "z", own("z"), None),
            (Face({"t": T, "more": T}, {}), "more", TWO, ONE),
            (Face({"u": pair(ONE, ONE)}, {}), "u", pair(ONE, ONE), pair(TWO, far("q", "t"))),
            (Face({"t": T}, {"k": ((T,), T)}), "k", ((TWO,), TWO), None),
            (Face({"t": T}, {"g": ((T,), T)}), "g", ((TWO,), TWO), ((), TWO)),
        ):
            self.no_fit(p, name, due, found, lambda: seen_face(self.full, want, p))


if __name__ == "__main__":
    unittest.main()

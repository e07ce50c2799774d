"""Makers and made parts: [21], [22]."""

import unittest

from samples import ONE, TWO, SameTest, face, far, own, pair, wide
from sealhouse.errors import NoCount, NoKind, NoName, TooBig, Twice
from sealhouse.faces import Face
from sealhouse.makers import Maker, made_face, maker_of
from sealhouse.reading import read_house
from sealhouse.writing import kind_text

T = own("t")
FACES = {
    "cell": face("(hid t) (fun make () t) (fun read (t) (num 2))"),
    "box": face("(hid t) (told s (pair t t)) (fun put (t) s)"),
    "only": face("(hid t)"),
    "both": face("(hid t) (hid u) (fun swap ((pair t u)) (pair u t))"),
}
PARTS = {
    "one": Face({"t": far("one", "t"), "k": TWO}, {"make": ((), far("one", "t")), "read": ((far("one", "t"),), TWO)}),
    "bit": Face({"t": ONE}, {}),
}


def maker(text):
    return read_house(text)[0]


def formals_of(made):
    return [(word, want.kinds, want.funs) for word, want in made.formals]


class MakerTest(SameTest):
    def test_fields_are_copies(self):
        want = Face({"t": T}, {})
        result = Face({"u": far("x", "t")}, {"f": ((), ONE)})
        formals = [("x", want)]
        made = Maker(formals, result)
        formals.clear()
        want.kinds.clear()
        result.funs.clear()
        self.assertEqual(formals_of(made), [("x", {"t": T}, {})])
        self.same(made.result, {"u": far("x", "t")}, {"f": ((), ONE)})
        self.assertIsInstance(made.formals, list)


class MakerOfTest(SameTest):
    def test_a_bare_maker(self):
        made = maker_of(maker("(maker m ((x cell)) bare (kind k (pair x.t one.k)) (fun f ((a k)) x.t (x.make)))"),
                        FACES, PARTS)
        k = pair(far("x", "t"), TWO)
        self.assertEqual(formals_of(made), [("x", {"t": T}, {"make": ((), T), "read": ((T,), TWO)})])
        self.same(made.result, {"k": k}, {"f": ((k,), far("x", "t"))})

    def test_a_sealed_maker(self):
        text = "(maker m ((x cell)) (box (t (pair x.t one.t))) (kind t (pair x.t one.t)) (kind s (pair t t)) " \
               "(kind more (num 1)) (fun put ((a t)) s (two a a)))"
        made = maker_of(maker(text), FACES, PARTS)
        t = pair(far("x", "t"), far("one", "t"))
        self.same(made.result, {"t": t, "s": pair(t, t)}, {"put": ((t,), pair(t, t))})
        text = "(maker m ((x cell)) (box) (kind s (pair x.t x.t)) (kind t x.t) (fun put ((a t)) s (two a a)))"
        made = maker_of(maker(text), FACES, PARTS)
        self.same(made.result, {"t": T, "s": pair(T, T)}, {"put": ((T,), pair(T, T))})

    def test_seals_of_formals(self):
        text = "(maker m ((x only) (y box (t (pair x.t one.k))) (z only (t y.s)) (w only (t y.t))) bare)"
        made = maker_of(maker(text), FACES, PARTS)
        t = pair(far("x", "t"), TWO)
        self.assertEqual(formals_of(made), [
            ("x", {"t": T}, {}), ("y", {"t": t, "s": pair(t, t)}, {"put": ((t,), pair(t, t))}),
            ("z", {"t": pair(t, t)}, {}), ("w", {"t": t}, {}),
        ])
        self.same(made.result, {}, {})

    def test_seals_that_name_what_is_not_known(self):
        for text, error in (
            ("(maker m ((x only (t y.t)) (y only)) bare)", NoKind),
            ("(maker m ((x only (t x.t))) bare)", NoKind),
            ("(maker m ((x only (t t))) bare)", NoKind),
            ("(maker m ((x only) (y only (t x.u))) bare)", NoKind),
            ("(maker m ((x only) (y only (u x.t))) bare)", NoKind),
            ("(maker m ((x only (t three.t))) bare)", NoKind),
            ("(maker m ((x none)) bare)", NoName),
            ("(maker m ((x one)) bare)", NoName),
            ("(maker m ((x only)) (none))", NoName),
            ("(maker m ((x only)) (x))", NoName),
            ("(maker m ((x only)) (only (t t)) (kind t (num 1)))", NoKind),
            ("(maker m ((x only)) (only (t x.u)) (kind t (num 1)))", NoKind),
            ("(maker m ((x only)) (only (t m.t)) (kind t (num 1)))", NoKind),
        ):
            with self.assertRaises(error, msg=text):
                maker_of(maker(text), FACES, PARTS)

    def test_items_open_formals_and_parts(self):
        made = maker_of(maker("(maker m ((x box (t (num 1)))) bare (open one) (kind u x.s))"), FACES, PARTS)
        self.same(made.result, dict(PARTS["one"].kinds, u=pair(ONE, ONE)), PARTS["one"].funs)
        made = maker_of(maker("(maker m ((x box)) bare (kind a (num 1)) (open x) (kind u s) (fun f () u a))"),
                        FACES, PARTS)
        t = far("x", "t")
        self.same(made.result, {"a": ONE, "t": t, "s": pair(t, t), "u": pair(t, t)},
                  {"put": ((t,), pair(t, t)), "f": ((), pair(t, t))})

    def test_items_as_a_part_has_them(self):
        for text, error in (
            ("(maker m ((x only)) bare (open m))", NoName),
            ("(maker m ((x only)) bare (open cell))", NoName),
            ("(maker m ((x only)) bare (kind t (num 1)) (open x))", Twice),
            ("(maker m ((x only) (y only)) bare (open x) (open y))", Twice),
            ("(maker m ((x only)) bare (kind a x.u))", NoKind),
            ("(maker m ((x only)) bare (kind a t))", NoKind),
            ("(maker m ((x only)) bare (kind a m.t))", NoKind),
        ):
            with self.assertRaises(error, msg=text):
                maker_of(maker(text), FACES, PARTS)

    def test_the_bound_of_words(self):
        for text, greatest in (
            ("(maker m ((x only (t {kind}))) bare)", 39),
            ("(maker m ((x box (t {kind}))) bare)", 19),
            ("(maker m ((x only)) bare (kind a {kind}))", 39),
            ("(maker m ((x only)) (only (t {kind})) (kind t {kind}))", 39),
        ):
            right = text.replace("{kind}", kind_text(wide(greatest)))
            self.assertIsInstance(maker_of(maker(right), FACES, PARTS), Maker)
            with self.assertRaises(TooBig, msg=text):
                maker_of(maker(text.replace("{kind}", kind_text(wide(greatest + 2)))), FACES, PARTS)

    def test_expressions_are_not_looked_at(self):
        text = "(maker m ((x only)) bare (fun f ((a (num 1)) (a (num 1))) (num 2) (two z (none.f (g)))))"
        self.same(maker_of(maker(text), FACES, PARTS).result, {}, {"f": ((ONE, ONE), TWO)})

    def test_items_that_do_not_fit(self):
        x = far("x", "t")
        for text, name, due, found in (
            ("(maker m ((x only)) (only))", "t", T, None),
            ("(maker m ((x only)) (only (t x.t)))", "t", x, None),
            ("(maker m ((x only)) (only (t x.t)) (kind t (num 1)))", "t", x, ONE),
            ("(maker m ((x only)) (box) (kind t x.t) (kind s x.t))", "s", pair(x, x), x),
            ("(maker m ((x only)) (box) (kind t x.t) (kind s (pair t t)))", "put", ((x,), pair(x, x)), None),
            ("(maker m ((x only)) (cell) (kind t x.t) (fun make ((a t)) t a))", "make", ((), x), ((x,), x)),
        ):
            self.no_fit("m", name, due, found, lambda: maker_of(maker(text), FACES, PARTS))

    def test_a_formal_fits_by_its_own_kinds_alone(self):
        text = "(maker m ((x only) (y only)) (only (t x.t)) (kind t y.t))"
        self.no_fit("m", "t", far("x", "t"), far("y", "t"), lambda: maker_of(maker(text), FACES, PARTS))

    def test_what_is_handed_in_stays(self):
        made = maker_of(maker("(maker m ((x cell) (y only (t x.t))) (only) (kind t one.t))"), FACES, PARTS)
        other = maker_of(maker("(maker m ((x cell) (y only (t x.t))) (only) (kind t one.t))"), FACES, PARTS)
        made.formals[0][1].kinds.clear()
        made.formals[0][1].funs.clear()
        made.result.kinds.clear()
        made.formals.clear()
        self.assertEqual((list(FACES), list(PARTS)), (["cell", "box", "only", "both"], ["one", "bit"]))
        self.same(FACES["cell"], {"t": T}, {"make": ((), T), "read": ((T,), TWO)})
        self.assertEqual([word for word, want in other.formals], ["x", "y"])
        self.same(other.result, {"t": T}, {})


class MadeFaceTest(SameTest):
    def make(self, text, word, given):
        return made_face(maker_of(maker(text), FACES, PARTS), word, given)

    def test_kinds_of_its_own_and_kinds_shared(self):
        text = "(maker m ((x cell)) (both (u x.t)) (kind t (pair x.t x.t)) (kind u x.t) " \
               "(fun swap ((a (pair t u))) (pair u t) a))"
        for word, had, u in (("p", PARTS["one"], far("one", "t")), ("other", PARTS["one"], far("one", "t")),
                             ("p", Face({"t": TWO}, {"read": ((TWO,), TWO), "make": ((), TWO)}), TWO)):
            t = far(word, "t")
            self.same(self.make(text, word, [had]), {"t": t, "u": u}, {"swap": ((pair(t, u),), pair(u, t))})

    def test_a_bare_maker_shows_what_it_is_made_of(self):
        seen = self.make("(maker m ((x cell)) bare (open x) (kind u (pair t one.t)))", "p", [
            Face({"more": ONE, "t": TWO}, {"read": ((TWO,), TWO), "make": ((), TWO), "most": ((), ONE)})])
        self.same(seen, {"t": TWO, "u": pair(TWO, far("one", "t"))}, {"make": ((), TWO), "read": ((TWO,), TWO)})

    def test_another_number_of_parts(self):
        bad = Face({}, {})
        good = PARTS["bit"]
        one = Maker([("x", FACES["only"])], Face({}, {}))
        two = Maker([("x", FACES["only"]), ("y", FACES["only"])], Face({}, {}))
        for made, given in ((one, []), (one, [good, good]), (two, [good]), (two, [good] * 3), (one, [bad, bad]),
                            (two, [bad]), (two, [bad] * 5)):
            with self.assertRaises(NoCount):
                made_face(made, "p", given)
        self.same(made_face(two, "p", [good, good]), {}, {})

    def test_the_count_goes_ahead_of_kinds_that_are_too_big(self):
        made = Maker([("x", FACES["only"]), ("y", Face({"t": pair(far("x", "t"), wide(39))}, {}))],
                     Face({"t": pair(far("x", "t"), wide(39))}, {}))
        with self.assertRaises(NoCount):
            made_face(made, "p", [PARTS["bit"]])

    def test_a_part_that_does_not_fit(self):
        text = "(maker m ((x only) (y both (t x.t) (u (pair x.t x.t)))) bare)"
        swap = ((pair(ONE, pair(ONE, ONE)),), pair(pair(ONE, ONE), ONE))
        good = {"t": ONE, "u": pair(ONE, ONE)}
        self.same(self.make(text, "p", [PARTS["bit"], Face(good, {"swap": swap})]), {}, {})
        for given, name, due, found in (
            ([Face({}, {}), Face({}, {})], "t", T, None),
            ([PARTS["bit"], Face({"t": ONE}, {})], "u", pair(ONE, ONE), None),
            ([PARTS["bit"], Face({"u": TWO, "t": TWO}, {})], "t", ONE, TWO),
            ([PARTS["bit"], Face({"u": TWO, "t": ONE}, {})], "u", pair(ONE, ONE), TWO),
            ([PARTS["bit"], Face(good, {})], "swap", swap, None),
            ([PARTS["bit"], Face(good, {"swap": ((), ONE)})], "swap", swap, ((), ONE)),
        ):
            self.no_fit("p", name, due, found, lambda: self.make(text, "p", given))

    def test_the_hidden_kinds_of_two_parts_are_not_one(self):
        text = "(maker m ((x only) (y only (t x.t))) bare)"
        three = Face({"t": far("three", "t")}, {})
        self.same(self.make(text, "p", [PARTS["one"], PARTS["one"]]), {}, {})
        self.no_fit("p", "t", far("one", "t"), far("three", "t"), lambda: self.make(text, "p", [PARTS["one"], three]))

    def test_kinds_are_shared_through_formals(self):
        text = "(maker m ((x only) (y only (t (pair x.t x.t)))) (both (t x.t) (u y.t)) (kind t x.t) (kind u y.t) " \
               "(fun swap ((a (pair t u))) (pair u t) a))"
        u = pair(far("one", "t"), far("one", "t"))
        seen = self.make(text, "p", [PARTS["one"], Face({"t": u}, {})])
        self.assertEqual(seen.kinds, {"t": far("one", "t"), "u": u})

    def test_words_of_formals_that_are_words_of_given_parts(self):
        text = "(maker m ((x only) (y only) (z only (t (pair x.t y.t)))) bare (kind a (pair x.t y.t)) (kind b z.t))"
        y = Face({"t": far("y", "t")}, {})
        x = Face({"t": far("x", "t")}, {})
        z = Face({"t": pair(far("y", "t"), far("x", "t"))}, {})
        self.same(self.make(text, "z", [y, x, z]), {"a": z.kinds["t"], "b": z.kinds["t"]}, {})

    def test_the_word_of_the_made_part_is_a_formals(self):
        text = "(maker m ((x only)) (both (u x.t)) (kind t (num 1)) (kind u x.t) " \
               "(fun swap ((a (pair t u))) (pair u t) a))"
        seen = self.make(text, "x", [PARTS["bit"]])
        self.same(seen, {"t": far("x", "t"), "u": ONE}, {"swap": ((pair(far("x", "t"), ONE),),
                                                                 pair(ONE, far("x", "t")))})

    def test_two_words_of_one_hidden_kind(self):
        made = Maker([("x", FACES["only"])], Face({"s": T, "t": T, "r": far("x", "t")}, {"f": ((T,), T)}))
        t = far("p", "t")
        self.same(made_face(made, "p", [PARTS["bit"]]), {"s": t, "t": t, "r": ONE}, {"f": ((t,), t)})

    def test_wanted_kinds_that_are_too_big(self):
        both = pair(far("x", "t"), far("x", "t"))
        for want in (Face({"t": both}, {}), Face({}, {"f": ((both,), ONE)}), Face({}, {"f": ((), both)})):
            made = Maker([("x", FACES["only"]), ("y", want)], Face({}, {}))
            for words, does in ((19, True), (21, False)):
                t = wide(words)
                had = Face({"t": pair(t, t)}, {"f": want.put({("x", "t"): t}, 50).funs.get("f")})
                if does:
                    self.same(made_face(made, "p", [Face({"t": t}, {}), had]), {}, {})
                else:
                    with self.assertRaises(TooBig):
                        made_face(made, "p", [Face({"t": t}, {}), had])

    def test_results_that_are_too_big(self):
        both = pair(far("x", "t"), pair(T, far("x", "t")))
        for result in (Face({"t": T, "s": both}, {}), Face({"t": T}, {"f": ((both,), T)}),
                       Face({"t": T}, {"f": ((), both)})):
            made = Maker([("x", FACES["only"])], result)
            self.assertEqual(made_face(made, "p", [Face({"t": wide(17)}, {})]).kinds["t"], far("p", "t"))
            with self.assertRaises(TooBig):
                made_face(made, "p", [Face({"t": wide(19)}, {})])

    def test_what_is_handed_in_stays(self):
        made = Maker([("x", FACES["cell"])], Face({"t": T, "u": far("x", "t")}, {}))
        given = [PARTS["one"]]
        made_face(made, "p", given).kinds.clear()
        self.same(made_face(made, "p", given), {"t": far("p", "t"), "u": far("one", "t")}, {})
        self.same(made.result, {"t": T, "u": far("x", "t")}, {})
        self.assertEqual(formals_of(made), [("x", {"t": T}, {"make": ((), T), "read": ((T,), TWO)})])
        self.assertEqual(given, [PARTS["one"]])
        self.assertEqual(list(PARTS["one"].kinds), ["t", "k"])


if __name__ == "__main__":
    unittest.main()

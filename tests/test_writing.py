"""Kinds, expressions and houses, as they are written: [5] to [9]."""

import unittest

from sealhouse.reading import read_expression, read_house, read_kind
from sealhouse.writing import expression_text, house_text, kind_text

KINDS = ("(num 1)", f"(num {10 ** 18})", "a", "abcdefghijkl.t", "(pair a (num 2))", "(pair (pair a q.b) (pair (num 7) c))")
EXPRESSIONS = (
    "x", "(lit 0 1)", f"(lit {10 ** 18 - 1} {10 ** 18})", "(+ 5 x y)", "(- 5 x y)", f"(* {10 ** 18} x y)", "(= x y)",
    "(< x y)", "(as 9 x)", "(if x y z)", "(let x y z)", "(two x y)", "(first x)", "(second x)", "(f)", "(f x)",
    "(f x y z x)", "(q.f)", "(q.f x (lit 0 2))", "(let x (two (f x) (lit 1 2)) (if (= x (first y)) (as 3 (q.f x)) (+ 2 x y)))",
)
DECLARATIONS = (
    "(face f)",
    "(face f (hid t) (told s (pair t q.u)) (fun g () t) (fun h (t (num 2) s q.u) s))",
    "(part p bare)",
    "(part p (f))",
    "(part p (bare))",
    "(part p (f (t (num 2)) (s q.u)) (kind t (num 2)) (open q) (fun g () t (lit 0 2)) (fun h ((x t) (y (num 2))) t (g x)))",
    "(maker m ((x f)) bare)",
    "(maker m ((x f (t (num 2)) (s q.u)) (y g) (z g) (u g)) (f (t x.t)) (open x) (kind t y.t) (fun g ((x t)) t x))",
    "(made p m q)",
    "(made p m q r q s t u)",
)


class WritingTest(unittest.TestCase):
    def test_kinds(self):
        self.assertEqual(kind_text(("num", 7)), "(num 7)")
        self.assertEqual(kind_text(("name", "", "t")), "t")
        self.assertEqual(kind_text(("name", "q", "t")), "q.t")
        self.assertEqual(kind_text(("pair", ("num", 7), ("name", "q", "t"))), "(pair (num 7) q.t)")
        for text in KINDS:
            self.assertEqual(kind_text(read_kind(text)), text)
            self.assertEqual(read_kind(kind_text(read_kind(text))), read_kind(text))

    def test_kinds_that_nest_deeper_than_is_read(self):
        kind = ("num", 1)
        for each in range(40):
            kind = ("pair", ("num", 1), kind)
        self.assertEqual(kind_text(kind), "(pair (num 1) " * 40 + "(num 1)" + ")" * 40)

    def test_kinds_that_nest_as_deep_as_is_read(self):
        kind = ("num", 1)
        for each in range(29):
            kind = ("pair", kind, ("name", "", "t"))
        self.assertEqual(read_kind(kind_text(kind)), kind)

    def test_expressions(self):
        x = ("var", "x")
        self.assertEqual(expression_text(("op", "-", 5, x, ("lit", 3, 5))), "(- 5 x (lit 3 5))")
        self.assertEqual(expression_text(("call", "q", "f", (x, ("call", "", "g", ())))), "(q.f x (g))")
        for text in EXPRESSIONS:
            self.assertEqual(expression_text(read_expression(text)), text)
            self.assertEqual(read_expression(expression_text(read_expression(text))), read_expression(text))

    def test_expressions_that_nest_deep(self):
        expression = ("call", "p", "f", ())
        for each in range(350):
            expression = ("first", expression)
        self.assertEqual(expression_text(expression), "(first " * 350 + "(p.f)" + ")" * 350)

    def test_declarations(self):
        self.assertEqual(house_text([("part", "p", None, (("open", "q"),))]), "(part p bare (open q))")
        self.assertEqual(house_text([("part", "p", ("f", (("t", ("num", 2)),)), ())]), "(part p (f (t (num 2))))")
        for text in DECLARATIONS:
            house = read_house(text)
            self.assertEqual(house_text(house), text)
            self.assertEqual(read_house(house_text(house)), house)

    def test_houses(self):
        self.assertEqual(house_text([]), "")
        self.assertEqual(read_house(house_text([])), [])
        text = "\n".join(DECLARATIONS)
        self.assertEqual(house_text(read_house(text)), text)
        self.assertEqual(house_text(read_house(" (face  f)(made p m\nq)")), "(face f)\n(made p m q)")

    def test_what_is_handed_in_stays(self):
        house = read_house("(face f) (part p bare)")
        house_text(house)
        self.assertEqual(house, read_house("(face f) (part p bare)"))


if __name__ == "__main__":
    unittest.main()

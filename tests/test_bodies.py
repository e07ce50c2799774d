"""Bodies: the kinds of expressions, and functions within: [23], [24]."""

import unittest

from samples import ONE, TWO, far, items, pair, wide
from sealhouse.bodies import kind_in, look_within
from sealhouse.errors import NoCount, NoKind, NoName, TooBig, Twice, WrongKind
from sealhouse.faces import Face
from sealhouse.reading import read_expression

TEN = ("num", 10)
H = far("q", "t")
VARIABLES = {"n": TEN, "m": ("num", 9), "c": TWO, "p": pair(TEN, TWO), "h": H, "hh": pair(H, TEN), "big": wide(199)}
CALLS = {
    ("", "near"): ((), TEN),
    ("q", "make"): ((TEN,), H),
    ("q", "mix"): ((H, TEN, pair(H, TEN), TWO), pair(H, H)),
    ("q", "great"): ((), wide(199)),
}


def called(part, word):
    if (part, word) not in CALLS:
        raise NoName(f"no {part} {word}")
    return CALLS[(part, word)]


def kind(text, most=None):
    if most is None:
        return kind_in(read_expression(text), VARIABLES, called)
    return kind_in(read_expression(text), VARIABLES, called, most)


class KindInTest(unittest.TestCase):
    def kinds(self, told):
        for text, due in told.items():
            self.assertEqual(kind(text), due, text)

    def refused(self, error, texts):
        for text in texts:
            with self.assertRaises(error, msg=text):
                kind(text)

    def test_literals_and_variables(self):
        self.kinds({"(lit 0 1)": ONE, "(lit 9 10)": TEN, "n": TEN, "h": H, "p": pair(TEN, TWO),
                    f"(lit 5 {10 ** 18})": ("num", 10 ** 18)})
        self.refused(NoName, ["x", "near", "(first x)", "(let y n x)", "(if c n x)", "(two n x)"])

    def test_reckoning(self):
        for sign in "+-*":
            self.kinds({f"({sign} 10 n n)": TEN, f"({sign} 2 c (lit 1 2))": TWO})
            self.refused(WrongKind, [f"({sign} 10 n m)", f"({sign} 10 m n)", f"({sign} 10 m m)", f"({sign} 9 n n)",
                                     f"({sign} 10 p p)", f"({sign} 10 h h)", f"({sign} 10 n h)"])

    def test_comparing(self):
        for sign in "=<":
            self.kinds({f"({sign} n n)": TWO, f"({sign} m (lit 3 9))": TWO, f"({sign} c c)": TWO})
            self.refused(WrongKind, [f"({sign} n m)", f"({sign} m n)", f"({sign} p p)", f"({sign} h h)",
                                     f"({sign} h n)", f"({sign} n h)", f"({sign} n p)"])

    def test_as(self):
        self.kinds({"(as 3 n)": ("num", 3), "(as 1 m)": ONE, "(as 20 c)": ("num", 20), "(as 10 n)": TEN})
        self.refused(WrongKind, ["(as 3 p)", "(as 3 h)", "(as 3 (two n n))"])

    def test_if(self):
        self.kinds({"(if c n n)": TEN, "(if (= n n) h h)": H, "(if (< m m) p (two n c))": pair(TEN, TWO)})
        self.refused(WrongKind, ["(if n n n)", "(if p n n)", "(if h n n)", "(if c n m)", "(if c h n)", "(if c p hh)",
                                 "(if (lit 0 1) n n)", "(if (lit 0 3) n n)"])

    def test_let(self):
        self.kinds({"(let x n x)": TEN, "(let x n (two x c))": pair(TEN, TWO), "(let x h (let y x y))": H})
        self.kinds({"(let n h n)": H, "(let n (two n n) n)": pair(TEN, TEN), "(two (let n h n) n)": pair(H, TEN),
                    "(let n c (let n (as 3 n) n))": ("num", 3), "(two (let x n x) (let x c x))": pair(TEN, TWO)})
        self.refused(NoName, ["(let x x n)", "(two (let x n x) x)", "(two x (let x n x))", "(let x (let y n y) y)"])
        self.refused(WrongKind, ["(let n h (+ 10 n n))", "(let x (first n) c)"])

    def test_pairs(self):
        self.kinds({"(two n c)": pair(TEN, TWO), "(two h (two n h))": pair(H, pair(TEN, H)), "(first p)": TEN,
                    "(second p)": TWO, "(first hh)": H, "(second (two c h))": H})
        self.refused(WrongKind, ["(first n)", "(second n)", "(first h)", "(second h)", "(first (first p))",
                                 "(second (second p))"])

    def test_calls(self):
        self.kinds({"(near)": TEN, "(q.make n)": H, "(q.make (near))": H, "(q.mix h n hh c)": pair(H, H),
                    "(q.mix (q.make n) (near) (two h n) (= n n))": pair(H, H), "(q.great)": wide(199)})
        self.refused(NoName, ["(far)", "(make n)", "(q.near)", "(q.none)", "(r.make n)", "(q.make (none))"])
        self.refused(NoCount, ["(near n)", "(q.make)", "(q.make n n)", "(q.mix h n hh)", "(q.mix)"])
        self.refused(WrongKind, ["(q.make m)", "(q.make h)", "(q.mix n n hh c)", "(q.mix h m hh c)",
                                 "(q.mix h n p c)", "(q.mix h n hh n)", "(q.mix h n hh h)"])

    def test_refusals_come_from_within(self):
        for text in ("(+ 10 {} n)", "(* 10 n {})", "(= {} n)", "(< n {})", "(as 5 {})", "(if {} n n)", "(if c {} n)",
                     "(if c n {})", "(let x {} n)", "(let x n {})", "(two {} n)", "(two n {})", "(first {})",
                     "(second {})", "(q.make {})", "(q.mix h n hh {})"):
            self.refused(NoName, [text.replace("{}", "zz")])
            self.refused(WrongKind, [text.replace("{}", "(first n)")])
            self.refused(NoCount, [text.replace("{}", "(near n)")])

    def test_the_bound_of_a_pair(self):
        for text in ("(two x y)", "(two y x)", "(let z (two x y) n)", "(first (two x y))", "(as 3 (second (two x y)))"):
            told = read_expression(text)
            for words, most in ((37, None), (39, 41), (3, 5), (1, 3), (97, 99)):
                variables = {"x": wide(words), "y": TEN, "n": TEN}
                if most is None:
                    kind_in(told, variables, called)
                else:
                    kind_in(told, variables, called, most)
            for words, most in ((39, None), (39, 40), (3, 4), (1, 2), (99, 100)):
                variables = {"x": wide(words), "y": TEN, "n": TEN}
                with self.assertRaises(TooBig, msg=text):
                    if most is None:
                        kind_in(told, variables, called)
                    else:
                        kind_in(told, variables, called, most=most)

    def test_no_other_expression_has_a_bound(self):
        for text in ("big", "(q.great)", "(let x big x)", "(if c big big)", "(if c big (q.great))"):
            self.assertEqual(kind(text), wide(199), text)
        self.assertEqual(kind("(second big)"), wide(197))
        self.refused(TooBig, ["(two big n)", "(two n big)", "(two n (q.great))"])
        self.assertEqual(kind("(two n big)", 201), pair(TEN, wide(199)))

    def test_the_variables_stay(self):
        variables = {"n": TEN}
        told = read_expression("(let n (lit 0 2) (let x n (two n x)))")
        self.assertEqual(kind_in(told, variables, called), pair(TWO, TWO))
        self.assertEqual(variables, {"n": TEN})

    def test_what_is_called_is_asked_for_both_words(self):
        asked = []

        def keep(part, word):
            asked.append((part, word))
            return ((), ONE)
        kind_in(read_expression("(two (f) (q.g))"), {}, keep)
        self.assertEqual(asked, [("", "f"), ("q", "g")])

    def test_a_refusal_of_what_is_called_goes_on(self):
        def refuse(part, word):
            raise NoKind("none")
        with self.assertRaises(NoKind):
            kind_in(read_expression("(let x (f) (lit 0 1))"), {}, refuse)

    def test_expressions_that_nest_deep(self):
        told = ("lit", 0, 10)
        for each in range(150):
            told = ("first", ("two", ("as", 10, ("let", "x", told, ("var", "x"))), ("lit", 0, 2)))
        self.assertEqual(kind_in(told, {}, called), TEN)


class LookWithinTest(unittest.TestCase):
    def setUp(self):
        self.parts = {
            "q": Face({"t": H}, {"make": ((), H), "read": ((H,), TWO)}),
            "r": Face({"u": TEN}, {"make": ((TEN,), TEN)}),
        }

    def good(self, text):
        self.assertIsNone(look_within(items(text), self.parts), text)

    def refused(self, error, texts):
        for text in texts:
            with self.assertRaises(error, msg=text):
                look_within(items(text), self.parts)

    def test_nothing_to_be_looked_at(self):
        self.good("")
        self.good("(kind a (num 1)) (open q) (kind b (pair a t))")

    def test_params_are_the_variables(self):
        self.good("(fun f ((x (num 10)) (y q.t)) (pair q.t (num 10)) (two y x))")
        self.good("(kind a (pair (num 10) q.t)) (fun f ((x a)) q.t (second x)) (fun g ((y q.t)) (num 2) (q.read y))")
        self.refused(NoName, ["(fun f () (num 10) x)", "(fun f ((x (num 10))) (num 10) y)",
                              "(fun f ((x (num 10))) (num 10) x) (fun g () (num 10) x)",
                              "(fun x () (num 10) x)", "(kind x (num 1)) (fun f () x x)"])

    def test_a_param_twice(self):
        self.refused(Twice, ["(fun f ((x (num 2)) (x (num 2))) (num 2) x)",
                             "(fun f ((x (num 2)) (y (num 2)) (x (num 3))) (num 2) y)",
                             "(fun g () (num 2) (lit 0 2)) (fun f ((x q.t) (x q.t)) (num 2) (g))"])
        self.good("(fun f ((x (num 2))) (num 2) x) (fun g ((x (num 2))) (num 2) x)")

    def test_own_functions_ahead(self):
        self.good("(fun f () (num 2) (lit 0 2)) (fun g ((x (num 2))) (num 2) (+ 2 (f) x)) (fun h () (num 2) (g (f)))")
        self.good("(fun f () (num 2) (lit 0 2)) (kind f (num 5)) (fun g () (num 2) (f))")
        self.refused(NoName, ["(fun f () (num 2) (f))", "(fun f ((x (num 2))) (num 2) (f x))",
                              "(fun f () (num 2) (g)) (fun g () (num 2) (lit 0 2))",
                              "(kind f (num 2)) (fun g () (num 2) (f))", "(fun g () (num 2) (let x (g) (lit 0 2)))"])
        self.refused(NoCount, ["(fun f () (num 2) (lit 0 2)) (fun g () (num 2) (f (f)))"])
        self.refused(WrongKind, ["(fun f ((x (num 2))) (num 2) x) (fun g () (num 2) (f (lit 0 3)))"])

    def test_opened_functions(self):
        self.good("(open q) (fun f ((x t)) (num 2) (read x)) (fun g () (num 2) (f (make)))")
        self.good("(open q) (fun f () (num 2) (read (q.make)))")
        self.good("(open q) (fun f () t (q.make)) (fun g () (num 2) (q.read (make)))")
        self.refused(NoName, ["(fun f () q.t (make)) (open q)", "(open q) (fun f ((x t)) t (r.read x))",
                              "(open r) (fun f ((x q.t)) (num 2) (read x))"])
        self.refused(NoCount, ["(open r) (fun f () (num 10) (make))"])

    def test_functions_of_known_parts(self):
        self.good("(fun f () (num 2) (q.read (q.make))) (fun g ((x r.u)) (num 10) (r.make x))")
        self.refused(NoName, ["(fun f () (num 2) (q.none))", "(fun f () (num 2) (z.make))", "(fun f () q.t (make))",
                              "(fun f () (num 2) (p.f))", "(fun f () (num 2) (q.t))"])
        self.refused(NoCount, ["(fun f () (num 2) (q.read))"])
        self.refused(WrongKind, ["(fun f () (num 2) (q.read (lit 0 2)))", "(fun f ((x q.t)) (num 10) (r.make x))"])

    def test_another_kind_than_is_told(self):
        self.refused(WrongKind, ["(fun f () (num 2) (lit 0 3))", "(fun f () (num 3) (q.make))",
                                 "(fun f ((x q.t)) (pair q.t q.t) x)", "(kind a (num 2)) (fun f ((x a)) (pair a a) x)",
                                 "(fun f () (num 2) (lit 0 2)) (fun g () (num 3) (f))"])

    def test_kinds_are_those_of_items_ahead(self):
        self.good("(kind a (num 10)) (kind b (pair a q.t)) (fun f ((x b)) a (+ 10 (first x) (lit 1 10)))")
        self.good("(open r) (fun f ((x u)) u (make (+ 10 x x)))")

    def test_the_bound_of_a_pair(self):
        self.parts["r"] = Face({"u": wide(37), "v": wide(39)}, {})
        self.good("(fun f ((x r.u)) (num 2) (let y (two (lit 0 2) x) (lit 0 2)))")
        self.refused(TooBig, ["(fun f ((x r.v)) (num 2) (let y (two (lit 0 2) x) (lit 0 2)))"])

    def test_what_is_handed_in_stays(self):
        told = list(items("(open q) (kind a t) (fun f ((x a)) (num 2) (let x (read x) x))"))
        before = list(told)
        look_within(told, self.parts)
        self.assertEqual(told, before)
        self.assertEqual(list(self.parts), ["q", "r"])
        self.assertEqual((self.parts["q"].kinds, list(self.parts["q"].funs)), ({"t": H}, ["make", "read"]))


if __name__ == "__main__":
    unittest.main()

"""Names, numbers, kinds, expressions and declarations, as they are read [6] to [9]."""

import unittest

from sealhouse.errors import NoForm, NoTree
from sealhouse.reading import (
    declaration_of_tree, expression_of_tree, is_name, is_number, kind_of_tree, read_expression, read_house, read_kind,
)

NO_NAMES = "num pair lit as if let two first second".split()
GREATEST = 10 ** 18
A = ("name", "", "a")
NUM = ("num", 2)


class RefusingTest(unittest.TestCase):
    def refuses(self, read, things, error=NoForm):
        for thing in things:
            with self.subTest(thing=thing), self.assertRaises(error):
                read(thing)


class WordsTest(RefusingTest):
    def test_names(self):
        for word in ("a", "z", "tick", "abcdefghijkl", "zzzzzzzzzzzz", "bare", "face", "numb", "nu", "open", "lets"):
            self.assertIs(is_name(word), True, word)

    def test_no_names(self):
        for word in ["", "abcdefghijklm", "A", "aB", "a1", "1", "a.b", "a b", " a", "a ", "a\n", "\na", "\n", "a-b",
                     "a_b", "+", "`", "{", "a`", "a{", "\u00e9", "\u00aa", "a\t"] + NO_NAMES:
            self.assertIs(is_name(word), False, word)

    def test_numbers(self):
        for word in ("0", "1", "9", "10", "100", "1234567890123456789", "9" * 19):
            self.assertIs(is_number(word), True, word)

    def test_no_numbers(self):
        for word in ("", "1" * 20, "00", "01", "0" * 19, "-1", "+1", "1.0", "1_0", "1 ", " 1", "1\n", "\n1", "a", "1a",
                     "/", ":", "\u00b2", "\u0663", "1\u0663"):
            self.assertIs(is_number(word), False, word)

    def test_far_names(self):
        self.assertEqual(read_kind("one.tick"), ("name", "one", "tick"))
        self.assertEqual(read_kind("abcdefghijkl.abcdefghijkl"), ("name", "abcdefghijkl", "abcdefghijkl"))
        self.refuses(read_kind, [".", "a.", ".a", "a.b.c", "a..b", "a.b.", ".a.b", "a.num", "let.a", "a.1", "1.a", "A.b",
                                 "abcdefghijklm.a", "a.abcdefghijklm"])


class KindsTest(RefusingTest):
    def test_each_form(self):
        self.assertEqual(read_kind("(num 7)"), ("num", 7))
        self.assertEqual(read_kind("a"), A)
        self.assertEqual(read_kind("q.t"), ("name", "q", "t"))
        self.assertEqual(read_kind("(pair a (num 2))"), ("pair", A, NUM))
        self.assertEqual(read_kind(" (pair(pair a b)q.t)\n"),
                         ("pair", ("pair", A, ("name", "", "b")), ("name", "q", "t")))
        self.assertEqual(kind_of_tree(("pair", ("num", "2"), "a")), ("pair", NUM, A))

    def test_the_size_of_a_num(self):
        self.assertEqual(read_kind("(num 1)"), ("num", 1))
        self.assertEqual(read_kind(f"(num {GREATEST})"), ("num", GREATEST))
        self.refuses(read_kind, ["(num 0)", f"(num {GREATEST + 1})", "(num 01)", "(num -1)", "(num a)", "(num (1))",
                                 "(num " + "9" * 19 + ")", "(num " + "1" * 20 + ")"])

    def test_no_kinds(self):
        self.refuses(read_kind, ["(num)", "(num 1 2)", "(pair)", "(pair a)", "(pair a b c)", "()", "(a)", "(a b c)", "num",
                                 "pair", "7", "((num 7))", "((num) 7)", "(Num 7)", "(pair a (num 0))", "(pair 7 a)",
                                 "(q.t)", "(two a b)"])
        self.refuses(kind_of_tree, [(), ("num",), ("num", ("7",)), ("pair", "a", ()), (("num", "7"),), "lit"])

    def test_just_one_tree(self):
        self.refuses(read_kind, ["", " \n", "a b", "(num 1) (num 1)", "(num 1)\na"])

    def test_no_tree_goes_ahead(self):
        self.refuses(read_kind, ["(num 0) (", "num)", "a b )", "(" * 31 + ")" * 31], NoTree)

    def test_trees_that_nest_forty_deep(self):
        tree, kind = "a", A
        for each in range(40):
            tree, kind = ("pair", "a", tree), ("pair", A, kind)
        self.assertEqual(kind_of_tree(tree), kind)


class ExpressionsTest(RefusingTest):
    def test_each_form(self):
        x, y, z = ("var", "x"), ("var", "y"), ("var", "z")
        for text, told in (
            ("x", x),
            ("(lit 3 7)", ("lit", 3, 7)),
            ("(+ 5 x y)", ("op", "+", 5, x, y)),
            ("(- 5 x y)", ("op", "-", 5, x, y)),
            ("(* 5 x y)", ("op", "*", 5, x, y)),
            ("(= x y)", ("test", "=", x, y)),
            ("(< x y)", ("test", "<", x, y)),
            ("(as 9 x)", ("as", 9, x)),
            ("(if x y z)", ("if", x, y, z)),
            ("(let x y z)", ("let", "x", y, z)),
            ("(two x y)", ("two", x, y)),
            ("(first x)", ("first", x)),
            ("(second x)", ("second", x)),
            ("(f)", ("call", "", "f", ())),
            ("(f x)", ("call", "", "f", (x,))),
            ("(q.f x y z x)", ("call", "q", "f", (x, y, z, x))),
            ("(q.f (f (two x (lit 0 1))) (if x (q.f) z))",
             ("call", "q", "f", (("call", "", "f", (("two", x, ("lit", 0, 1)),)), ("if", x, ("call", "q", "f", ()), z)))),
        ):
            with self.subTest(text=text):
                self.assertEqual(read_expression(text), told)

    def test_trees(self):
        self.assertEqual(expression_of_tree(("f", "x", ("lit", "0", "1"))),
                         ("call", "", "f", (("var", "x"), ("lit", 0, 1))))

    def test_literals(self):
        self.assertEqual(read_expression("(lit 0 1)"), ("lit", 0, 1))
        self.assertEqual(read_expression("(lit 6 7)"), ("lit", 6, 7))
        self.assertEqual(read_expression(f"(lit {GREATEST - 1} {GREATEST})"), ("lit", GREATEST - 1, GREATEST))
        self.refuses(read_expression, ["(lit 7 7)", "(lit 8 7)", "(lit 1 1)", "(lit 0 0)", f"(lit 0 {GREATEST + 1})",
                                       f"(lit {GREATEST} {GREATEST})", "(lit x 7)", "(lit 0 x)", "(lit (0) 7)",
                                       "(lit 0 (7))", "(lit 00 7)", "(lit -1 7)"])

    def test_sizes(self):
        for form in ("(+ {} x y)", "(- {} x y)", "(* {} x y)", "(as {} x)"):
            for size in (1, GREATEST):
                self.assertIn(size, read_expression(form.format(size)))
            self.refuses(read_expression, [form.format(size) for size in (0, GREATEST + 1, "x", "(1)", "01", "1" * 20)])

    def test_one_too_few_and_one_too_many(self):
        self.refuses(read_expression, [
            "(lit 3)", "(lit 3 7 7)", "(+ 5 x)", "(+ 5 x y z)", "(- 5 x)", "(- 5 x y z)", "(* 5 x)", "(* 5 x y z)",
            "(= x)", "(= x y z)", "(< x)", "(< x y z)", "(as 9)", "(as 9 x y)", "(if x y)", "(if x y z x)", "(let x y)",
            "(let x y z x)", "(two x)", "(two x y z)", "(first)", "(first x y)", "(second)", "(second x y)",
        ])

    def test_calls_of_none_to_four_arguments(self):
        for count in range(5):
            args = (("var", "x"),) * count
            self.assertEqual(read_expression("(f" + " x" * count + ")"), ("call", "", "f", args))
            self.assertEqual(read_expression("(q.f" + " x" * count + ")"), ("call", "q", "f", args))
        self.refuses(read_expression, ["(f x x x x x)", "(q.f x x x x x)"])

    def test_no_expressions(self):
        self.refuses(read_expression, ["()", "7", "q.f", "+", "lit", "(7)", "((f) x)", "(() x)", "(num 7)", "(pair x y)",
                                       "(> x y)", "(/ 5 x y)", "(F x)", "(q. x)", "(.f x)", "(q.f.g x)", "(num.f x)",
                                       "(let 7 x y)", "(let if x y)", "(let q.x x y)", "(let (x) y z)", "(f 7)",
                                       "(f x ())", "(two x (lit 1 1))", "(q.let x)"])
        self.refuses(expression_of_tree, [(), "q.f", ("lit", "1"), (("f",),), ("f", "7")])

    def test_just_one_tree(self):
        self.refuses(read_expression, ["", "\n", "x y", "(f) (f)"])

    def test_no_tree_goes_ahead(self):
        self.refuses(read_expression, ["7 (", "(lit 7 7) )", "x y (", "(f x"], NoTree)


class DeclarationsTest(RefusingTest):
    def one(self, text):
        house = read_house(text)
        self.assertIsInstance(house, list)
        self.assertEqual(len(house), 1)
        return house[0]

    def test_faces(self):
        self.assertEqual(self.one("(face f)"), ("face", "f", ()))
        self.assertEqual(
            self.one("(face f (hid t) (told s (pair t q.u)) (fun g () t) (fun h (t (num 2)) s))"),
            ("face", "f", (
                ("hid", "t"),
                ("told", "s", ("pair", ("name", "", "t"), ("name", "q", "u"))),
                ("fun", "g", (), ("name", "", "t")),
                ("fun", "h", (("name", "", "t"), NUM), ("name", "", "s")),
            )))

    def test_a_face_s_function_of_four_and_five_kinds(self):
        self.assertEqual(self.one("(face f (fun g (a a a a) a))"), ("face", "f", (("fun", "g", (A,) * 4, A),)))
        self.refuses(read_house, ["(face f (fun g (a a a a a) a))"])

    def test_no_faces(self):
        self.refuses(read_house, ["(face)", "(face 7)", "(face (f))", "(face let)", "(face q.f)"])
        for item in ("hid", "()", "(hid)", "(hid t t)", "(hid 7)", "(hid q.t)", "(hid (t))", "(told t)", "(told t a a)",
                     "(told 7 a)", "(told t 7)", "(fun g ())", "(fun g () a a)", "(fun g a a)", "(fun g (7) a)",
                     "(fun 7 () a)", "(fun g () 7)", "(fun g () a x)", "(kind t a)", "(open q)", "((hid t))", "(see t)",
                     "(fun g ((x a)) a)", "(see g () a)"):
            self.refuses(read_house, [f"(face f {item})", f"(face f (hid t) {item})"])

    def test_parts(self):
        self.assertEqual(self.one("(part p bare)"), ("part", "p", None, ()))
        self.assertEqual(self.one("(part p (f))"), ("part", "p", ("f", ()), ()))
        self.assertEqual(self.one("(part p (bare))"), ("part", "p", ("bare", ()), ()))
        self.assertEqual(
            self.one("(part p (f (t (num 2)) (s q.u)) (kind t (num 2)) (open q) (fun g () a (lit 0 2))"
                     " (fun h ((x a) (y (num 2))) a (g)))"),
            ("part", "p", ("f", (("t", NUM), ("s", ("name", "q", "u")))), (
                ("kind", "t", NUM),
                ("open", "q"),
                ("fun", "g", (), A, ("lit", 0, 2)),
                ("fun", "h", (("x", A), ("y", NUM)), A, ("call", "", "g", ())),
            )))

    def test_four_and_five_params(self):
        self.assertEqual(self.one("(part p bare (fun g ((a a) (b a) (c a) (d a)) a a))"),
                         ("part", "p", None, (("fun", "g", (("a", A), ("b", A), ("c", A), ("d", A)), A, ("var", "a")),)))
        self.refuses(read_house, ["(part p bare (fun g ((a a) (b a) (c a) (d a) (e a)) a a))"])

    def test_no_seals(self):
        for seal in ("f", "()", "7", "(7)", "(q.f)", "((f))", "(f t)", "(f (t))", "(f (t a a))", "(f (7 a))", "(f (t 7))",
                     "(f ())", "(f (t a) u)", "(let)", "Bare"):
            self.refuses(read_house, [f"(part p {seal})", f"(maker m ((x f)) {seal})"])

    def test_no_parts(self):
        self.refuses(read_house, ["(part)", "(part p)", "(part 7 bare)", "(part (p) bare)", "(part bare)", "(part if bare)"])

    def test_no_items_of_parts(self):
        for item in ("kind", "()", "(kind t)", "(kind t a a)", "(kind 7 a)", "(kind t 7)", "(kind q.t a)", "(open)",
                     "(open q r)", "(open 7)", "(open q.r)", "(open (q))", "(fun g () a)", "(fun g () a x x)",
                     "(fun 7 () a x)", "(fun g x a x)", "(fun g (x) a x)", "(fun g ((x)) a x)", "(fun g ((x a a)) a x)",
                     "(fun g ((7 a)) a x)", "(fun g ((x 7)) a x)", "(fun g () 7 x)", "(fun g () a 7)", "(hid t)",
                     "(told t a)", "(fun g (a) a)", "((open q))", "(see g () a x)"):
            self.refuses(read_house, [f"(part p bare {item})", f"(maker m ((x f)) bare {item})"])

    def test_makers(self):
        self.assertEqual(self.one("(maker m ((x f)) bare)"), ("maker", "m", (("x", ("f", ())),), None, ()))
        self.assertEqual(
            self.one("(maker m ((x f (t a) (s (num 2))) (y g)) (h (t x.t)) (open x) (kind t a))"),
            ("maker", "m", (("x", ("f", (("t", A), ("s", NUM)))), ("y", ("g", ()))),
             ("h", (("t", ("name", "x", "t")),)), (("open", "x"), ("kind", "t", A))))

    def test_one_to_four_formals(self):
        self.assertEqual(len(self.one("(maker m ((a f) (b f) (c f) (d f)) bare)")[2]), 4)
        self.refuses(read_house, ["(maker m () bare)", "(maker m ((a f) (b f) (c f) (d f) (e f)) bare)"])

    def test_no_makers(self):
        self.refuses(read_house, ["(maker)", "(maker m)", "(maker m ((x f)))", "(maker 7 ((x f)) bare)",
                                  "(maker m x bare)", "(maker m (x) bare)", "(maker m ((x)) bare)", "(maker m (()) bare)",
                                  "(maker m ((7 f)) bare)", "(maker m ((x 7)) bare)", "(maker m ((x bare 7)) bare)",
                                  "(maker m ((x (f))) bare)", "(maker m ((x f (t))) bare)", "(maker m ((x f t)) bare)",
                                  "(maker m bare)", "(maker m bare ((x f)))"])

    def test_made_parts(self):
        self.assertEqual(self.one("(made p m q)"), ("made", "p", "m", ("q",)))
        self.assertEqual(self.one("(made p m q r q s t u)"), ("made", "p", "m", ("q", "r", "q", "s", "t", "u")))
        self.refuses(read_house, ["(made)", "(made p)", "(made p m)", "(made 7 m q)", "(made p 7 q)", "(made p m 7)",
                                  "(made p m (q))", "(made p m q q.r)", "(made p m q let)"])

    def test_houses(self):
        self.assertEqual(read_house(""), [])
        self.assertEqual(read_house(" \n "), [])
        self.assertEqual(read_house("(face f)(part p bare)\n\n(face f)"),
                         [("face", "f", ()), ("part", "p", None, ()), ("face", "f", ())])

    def test_no_declarations(self):
        self.refuses(read_house, ["face", "()", "7", "((face f))", "(hid t)", "(house f)", "(house p m q)", "(face f) a",
                                  "(face f) ()"])
        self.refuses(declaration_of_tree, [(), "face", ("face",), (("face", "f"),), ("made", "p", "m")])

    def test_trees(self):
        self.assertEqual(declaration_of_tree(("made", "p", "m", "q")), ("made", "p", "m", ("q",)))
        self.assertEqual(declaration_of_tree(("part", "p", "bare", ("open", "q"))), ("part", "p", None, (("open", "q"),)))

    def test_no_tree_goes_ahead_for_the_whole_text(self):
        self.refuses(read_house, ["(face 7) (", "7 )", "(face f) (hid t", ") (face)", "() " + "(" * 31 + ")" * 31], NoTree)

    def test_more_items_than_are_promised(self):
        self.assertEqual(len(self.one("(face f" + " (hid t)" * 20 + ")")[2]), 20)
        self.assertEqual(len(read_house("(face f) " * 20)), 20)

    def test_the_list_is_the_askers_own(self):
        read_house("(face f)").append("more")
        self.assertEqual(read_house("(face f)"), [("face", "f", ())])


if __name__ == "__main__":
    unittest.main()

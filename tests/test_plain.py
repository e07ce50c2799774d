"""Plain programs: looked at, weights and depths: [29], [30]."""

import unittest

from samples import ONE, TWO, far, pair, sums, wide
from sealhouse.errors import NoCount, NoName, TooBig, TooHeavy, Twice, WrongKind
from sealhouse.plain import plain_look, weights
from sealhouse.reading import read_expression

TEN = ("num", 10)


def function(name, params, kind, text):
    """A plain function: its far name, its params {x: kind}, its kind, and its expression as a text."""
    return (tuple(name.split(".")), tuple(params.items()), kind, read_expression(text))


def chain(count, inner="(lit 1 10)"):
    """An expression, written: that many levels around another one."""
    return "(as 10 " * count + inner + ")" * count


class PlainLookTest(unittest.TestCase):
    def refused(self, error, program):
        with self.assertRaises(error):
            plain_look(program)

    def test_a_good_program(self):
        program = [
            function("p.f", {}, TEN, "(lit 3 10)"),
            function("p.g", {"x": TEN, "y": TWO}, pair(TEN, TWO), "(two (+ 10 x (p.f)) y)"),
            function("q.f", {"x": TEN}, TWO, "(let x (p.g x (lit 1 2)) (second x))"),
        ]
        before = list(program)
        told = plain_look(program)
        self.assertEqual(list(told.items()), [(("p", "f"), ((), TEN)), (("p", "g"), ((TEN, TWO), pair(TEN, TWO))),
                                              (("q", "f"), ((TEN,), TWO))])
        self.assertEqual(program, before)
        told.clear()
        self.assertEqual(len(plain_look(program)), 3)
        self.assertEqual(plain_look([]), {})

    def test_a_function_twice(self):
        one = function("p.f", {}, TEN, "(lit 3 10)")
        self.refused(Twice, [one, one])
        self.refused(Twice, [one, function("q.f", {}, TEN, "(p.f)"), function("p.f", {"x": TWO}, TWO, "x")])
        self.assertEqual(len(plain_look([one, function("q.f", {}, TEN, "(p.f)"), function("p.g", {}, TEN, "(p.f)")])), 3)

    def test_a_param_twice(self):
        self.refused(Twice, [(("p", "f"), (("x", TEN), ("x", TEN)), TEN, ("var", "x"))])
        self.refused(Twice, [(("p", "f"), (("x", TEN), ("y", TEN), ("x", TWO)), TEN, ("var", "y"))])

    def test_calls_of_those_ahead_alone(self):
        one = function("p.f", {"x": TEN}, TEN, "x")
        for text in ("(p.g (lit 1 10))", "(p.h (lit 1 10))", "(f (lit 1 10))", "(q.f (lit 1 10))", "(p.none)",
                     "(g (lit 1 10))", "(let x (p.g (lit 1 10)) (lit 1 10))", "y"):
            self.refused(NoName, [one, function("p.g", {"x": TEN}, TEN, text), function("p.h", {"x": TEN}, TEN, "x")])
        self.refused(NoName, [function("q.g", {"x": TEN}, TEN, "(p.f x)"), one])
        self.assertEqual(len(plain_look([one, function("q.g", {"x": TEN}, TEN, "(p.f x)")])), 2)

    def test_kinds_and_numbers_of_arguments(self):
        one = function("p.f", {"x": TEN, "y": TWO}, TEN, "x")
        for text in ("(p.f)", "(p.f (lit 1 10))", "(p.f (lit 1 10) (lit 1 2) (lit 1 2))"):
            self.refused(NoCount, [one, function("p.g", {}, TEN, text)])
        for text in ("(p.f (lit 1 2) (lit 1 2))", "(p.f (lit 1 10) (lit 1 10))", "(lit 1 2)", "(+ 10 (lit 1 10) (lit 1 2))",
                     "(first (lit 1 10))", "(two (lit 1 10) (lit 1 10))", "(if (lit 1 10) (lit 1 10) (lit 1 10))"):
            self.refused(WrongKind, [one, function("p.g", {}, TEN, text)])
        self.refused(WrongKind, [function("p.g", {"x": TWO}, TEN, "x")])

    def test_hidden_kinds_are_none_of_its_own(self):
        hidden = far("q", "t")
        program = [(("p", "f"), (("x", hidden),), hidden, ("var", "x"))]
        self.assertEqual(plain_look(program), {("p", "f"): ((hidden,), hidden)})

    def test_the_bound_of_a_pair(self):
        for words, does in ((7997, True), (7999, False), (3999, True)):
            kind = half_and_half(words)
            program = [(("p", "f"), (("x", kind),), TEN, read_expression("(let y (two (lit 1 10) x) (lit 1 10))"))]
            if does:
                self.assertEqual(plain_look(program), {("p", "f"): ((kind,), TEN)})
            else:
                self.refused(TooBig, program)

    def test_pairs_within_the_bound(self):
        doubled = "(let x (two x x) " * 5 + "(lit 1 10)" + ")" * 5
        self.assertEqual(len(plain_look([function("p.f", {"x": wide(199)}, TEN, doubled)])), 1)
        self.refused(TooBig, [function("p.f", {"x": wide(199)}, TEN, f"(let x (two x x) {doubled})")])
        self.refused(TooBig, [function("p.f", {"x": wide(251)}, TEN, doubled)])

    def test_no_other_kind_has_a_bound(self):
        kind = half_and_half(9001)
        program = [(("p", "f"), (("x", kind),), kind, ("var", "x")),
                   (("p", "g"), (("x", kind),), kind, ("call", "p", "f", (("var", "x"),)))]
        self.assertEqual(list(plain_look(program)), [("p", "f"), ("p", "g")])


def half_and_half(words):
    """A kind of just so many words, an odd number, of few levels."""
    if words == 1:
        return ONE
    left = (words - 1) // 2
    left -= 1 - left % 2
    return pair(half_and_half(left), half_and_half(words - 1 - left))


class WeightsTest(unittest.TestCase):
    def each(self, text, due, more=()):
        program = list(more) + [function("p.z", {"x": TEN, "y": pair(TEN, TEN)}, TEN, text)]
        self.assertEqual(weights(program)[("p", "z")], due, text)

    def test_each_form(self):
        for text, due in (
            ("x", (1, 1)), ("(lit 1 10)", (1, 1)), ("(+ 10 x x)", (3, 2)), ("(- 10 x (* 10 x x))", (5, 3)),
            ("(= x x)", (3, 2)), ("(< (as 5 x) x)", (4, 3)), ("(as 5 x)", (2, 2)),
            ("(if (= x x) x (as 10 x))", (7, 3)), ("(let z (as 10 x) z)", (4, 3)), ("(let z x (as 10 (as 10 z)))", (5, 4)),
            ("(two x (first y))", (4, 3)), ("(first y)", (2, 2)), ("(second (two x x))", (4, 3)),
            ("(if x (as 10 (as 10 x)) x)", (6, 4)), ("(if (as 10 (as 10 x)) x x)", (6, 4)),
        ):
            self.each(text, due)

    def test_calls(self):
        one = function("p.one", {}, TEN, "(lit 1 10)")
        deep = function("p.deep", {"a": TEN, "b": TEN}, TEN, "(as 10 (as 10 (+ 10 a b)))")
        self.each("(p.one)", (2, 2), [one])
        self.each("(+ 10 (p.one) (p.one))", (5, 3), [one])
        self.each("(p.deep x x)", (8, 5), [deep])
        self.each("(p.deep x (as 10 (as 10 (as 10 (as 10 x)))))", (12, 6), [deep])
        self.each("(p.deep (p.deep x x) (p.one))", (16, 6), [one, deep])
        self.each("(p.deep (p.deep (p.deep x x) x) x)", (22, 7), [deep])

    def test_all_functions_in_their_order(self):
        program = [function("q.a", {}, TEN, "(lit 1 10)"), function("p.a", {}, TEN, "(q.a)"),
                   function("q.b", {}, TEN, "(+ 10 (p.a) (q.a))")]
        before = list(program)
        told = weights(program)
        self.assertEqual(list(told.items()), [(("q", "a"), (1, 1)), (("p", "a"), (2, 2)), (("q", "b"), (6, 4))])
        told.clear()
        self.assertEqual((len(weights(program)), program), (3, before))
        self.assertEqual(weights([]), {})

    def test_the_bound_of_weights(self):
        self.each(sums(599), (599, 10))
        self.each(f"(as 10 {sums(599)})", (600, 11))
        for text in (sums(601), f"(as 10 (as 10 {sums(599)}))"):
            with self.assertRaises(TooHeavy):
                weights([function("p.z", {}, TEN, text)])

    def test_the_bound_of_weights_by_calls(self):
        one = function("p.one", {}, TEN, f"(as 10 {sums(297)})")
        self.each("(as 10 (+ 10 (p.one) (p.one)))", (600, 13), [one])
        with self.assertRaises(TooHeavy):
            weights([one, function("p.z", {}, TEN, "(as 10 (as 10 (+ 10 (p.one) (p.one))))")])

    def test_a_function_ahead_that_is_too_heavy(self):
        with self.assertRaises(TooHeavy):
            weights([function("p.a", {}, TEN, sums(601)), function("p.z", {}, TEN, "(lit 1 10)")])

    def test_the_bound_of_depths(self):
        for count, does in ((39, True), (40, False)):
            told = ("lit", 1, 10)
            for each in range(count):
                told = ("as", 10, told)
            program = [(("p", "f"), (), TEN, told)]
            if does:
                self.assertEqual(weights(program), {("p", "f"): (40, 40)})
            else:
                with self.assertRaises(TooHeavy):
                    weights(program)

    def test_the_bound_of_depths_by_calls(self):
        one = function("p.one", {"x": TEN}, TEN, chain(19))
        small = function("p.small", {"x": TEN}, TEN, chain(3))
        self.each(chain(19, "(p.one x)"), (41, 40), [one])
        self.each(f"(p.small {chain(18, '(p.one x)')})", (45, 40), [one, small])
        for text in (chain(20, "(p.one x)"), f"(p.small {chain(19, '(p.one x)')})"):
            with self.assertRaises(TooHeavy):
                weights([one, small, function("p.z", {"x": TEN}, TEN, text)])

    def test_the_bound_of_depths_by_many_calls(self):
        one = function("p.one", {"x": TEN}, TEN, chain(19))
        calls = [one]
        last = "one"
        for word in "abcdefghijklmnopqrst":
            calls.append(function(f"p.{word}", {"x": TEN}, TEN, f"(p.{last} x)"))
            last = word
        self.assertEqual(weights(calls)[("p", "t")], (60, 40))
        with self.assertRaises(TooHeavy):
            weights(calls + [function("p.u", {"x": TEN}, TEN, "(p.t x)")])

    def test_a_function_is_reckoned_once(self):
        # Each calls the one ahead of it twice; reckoned anew at each call, the last one would take too long.
        program = [function("p.a", {}, TEN, "(lit 1 10)")]
        last = "p.a"
        for name in [f"p.{one}{other}" for one in "bcdefgh" for other in "abcdefgh"]:
            program.append(function(name, {}, TEN, f"(+ 10 ({last}) ({last}))"))
            last = name
        self.assertEqual(weights(program[:8])[("p", "bg")], (509, 15))
        with self.assertRaises(TooHeavy):
            weights(program)


if __name__ == "__main__":
    unittest.main()

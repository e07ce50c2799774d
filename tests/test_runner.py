"""The runner: values of expressions, runs of plain programs: [31], and [2] and [3] for them."""

import unittest

from sealhouse.errors import NoName
from sealhouse.linker import link
from sealhouse.looker import wrong_at
from sealhouse.plain import plain_look
from sealhouse.reading import read_expression, read_house
from sealhouse.runner import ask, run, value_of

MOST = 10 ** 18


def refusing(part, word, values):
    raise NoName("nothing may be called")


def value(text, **variables):
    """The value of an expression, written in a text, that calls nothing."""
    return value_of(read_expression(text), variables, refusing)


class Calls:
    """What is called, noted in its order; each call answers its first argument, or the number of calls so far."""

    def __init__(self):
        self.made = []

    def value(self, text, **variables):
        def call(part, word, values):
            self.made.append((part, word, values))
            return values[0] if values else len(self.made)

        return value_of(read_expression(text), variables, call)


class ValueTest(unittest.TestCase):
    def test_literals_and_variables(self):
        self.assertEqual(value("(lit 0 1)"), 0)
        self.assertEqual(value("(lit 6 7)"), 6)
        self.assertEqual(value(f"(lit {MOST - 1} {MOST})"), MOST - 1)
        self.assertEqual(value("x", x=3, y=4), 3)
        self.assertEqual(value("x", x=(1, (2, 3))), (1, (2, 3)))

    def test_reckoned(self):
        for sign, one, other, due in (
                ("+", 3, 3, 6), ("+", 3, 4, 0), ("+", 6, 6, 5), ("+", 0, 0, 0), ("+", 6, 1, 0), ("+", 5, 1, 6),
                ("-", 3, 3, 0), ("-", 3, 4, 6), ("-", 0, 6, 1), ("-", 6, 0, 6), ("-", 0, 1, 6), ("-", 5, 2, 3),
                ("*", 2, 3, 6), ("*", 1, 0, 0), ("*", 6, 6, 1), ("*", 5, 3, 1), ("*", 2, 4, 1)):
            with self.subTest(sign=sign, one=one, other=other):
                self.assertEqual(value(f"({sign} 7 x y)", x=one, y=other), due)

    def test_reckoned_at_the_ends(self):
        self.assertEqual(value("(+ 1 (lit 0 1) (lit 0 1))"), 0)
        self.assertEqual(value("(- 1 (lit 0 1) (lit 0 1))"), 0)
        for sign, due in (("+", MOST - 2), ("-", 0), ("*", 1)):
            self.assertEqual(value(f"({sign} {MOST} x x)", x=MOST - 1), due)
        self.assertEqual(value(f"(- {MOST} (lit 0 {MOST}) (lit 1 {MOST}))"), MOST - 1)
        self.assertEqual(value(f"(* {MOST} x y)", x=MOST - 1, y=MOST - 2), 2)

    def test_as(self):
        for size, number, due in ((3, 7, 1), (8, 7, 7), (7, 7, 0), (1, 7, 0), (2, 7, 1), (100, 7, 7), (5, 0, 0)):
            self.assertEqual(value(f"(as {size} x)", x=number), due)
        self.assertEqual(value("(as 10 x)", x=MOST - 1), 9)
        self.assertEqual(value(f"(as {MOST} x)", x=5), 5)

    def test_tests(self):
        for one, other, same, less in ((3, 3, 1, 0), (3, 4, 0, 1), (4, 3, 0, 0), (0, 0, 1, 0), (0, 9, 0, 1)):
            found = value("(= x y)", x=one, y=other), value("(< x y)", x=one, y=other)
            self.assertEqual(found, (same, less))
            self.assertEqual([isinstance(each, bool) for each in found], [False, False])

    def test_pairs(self):
        self.assertEqual(value("(two (lit 1 2) x)", x=5), (1, 5))
        self.assertEqual(value("(two (two x y) (two y x))", x=1, y=2), ((1, 2), (2, 1)))
        self.assertEqual(value("(first x)", x=(1, 2)), 1)
        self.assertEqual(value("(second x)", x=(1, 2)), 2)
        self.assertEqual(value("(first (second x))", x=(1, (2, 3))), 2)
        self.assertIsInstance(value("(two x x)", x=1), tuple)

    def test_if_runs_one_branch(self):
        self.assertEqual(value("(if (lit 1 2) (lit 4 9) (lit 5 9))"), 4)
        self.assertEqual(value("(if (lit 0 2) (lit 4 9) (lit 5 9))"), 5)
        self.assertEqual(value("(if (= x x) x (none))", x=6), 6)
        self.assertEqual(value("(if (< x x) (none) x)", x=6), 6)
        for text in ("(if (= x x) (none) x)", "(if (< x x) x (none))", "(if (none) x x)"):
            with self.assertRaises(NoName):
                value(text, x=6)

    def test_let_hides_and_gives_back(self):
        self.assertEqual(value("(let x (lit 1 9) x)", x=6), 1)
        self.assertEqual(value("(let x (+ 9 x x) x)", x=3), 6)
        self.assertEqual(value("(two (let x (lit 1 9) x) x)", x=6), (1, 6))
        self.assertEqual(value("(let y (let x (lit 1 9) x) (two x y))", x=6), (6, 1))
        self.assertEqual(value("(let x (lit 1 9) (two (let x (lit 2 9) x) x))"), (2, 1))
        self.assertEqual(value("(let x (two x y) (let y (first x) (two y (second x))))", x=6, y=7), (6, 7))

    def test_calls(self):
        calls = Calls()
        self.assertEqual(calls.value("(one.f (lit 4 9) x)", x=(1, 2)), 4)
        self.assertEqual(calls.value("(near)"), 2)
        self.assertEqual(calls.value("(g x x x x)", x=8), 8)
        self.assertEqual(calls.made, [("one", "f", [4, (1, 2)]), ("", "near", []), ("", "g", [8, 8, 8, 8])])
        self.assertTrue(all(isinstance(values, list) for part, word, values in calls.made))

    def test_from_left_to_right(self):
        for text, words in (
                ("(+ 9 (a.f) (b.f))", ["a", "b"]), ("(< (a.f) (b.f))", ["a", "b"]), ("(two (a.f) (b.f))", ["a", "b"]),
                ("(let x (a.f) (b.f))", ["a", "b"]), ("(let x (a.f) (b.f x (c.f)))", ["a", "c", "b"]),
                ("(d.f (a.f (b.f)) (c.f))", ["b", "a", "c", "d"]), ("(if (a.f) (b.f) (c.f))", ["a", "b"]),
                ("(if (a.f (lit 0 2)) (b.f) (c.f))", ["a", "c"]), ("(as 9 (a.f (b.f)))", ["b", "a"]),
                ("(e.f (a.f) (b.f) (c.f) (d.f))", ["a", "b", "c", "d", "e"]),
                ("(two (two (a.f) (b.f)) (two (c.f) (first (two (d.f) (e.f)))))", ["a", "b", "c", "d", "e"])):
            calls = Calls()
            calls.value(text)
            self.assertEqual([part for part, word, values in calls.made], words, text)

    def test_what_is_handed_in_stays(self):
        variables = {"x": 1, "y": (2, 3)}
        seen = []

        def call(part, word, values):
            seen.append(list(values))
            values.clear()
            return 0

        told = read_expression("(let x (lit 5 9) (let z x (two (f x y) (f y x z))))")
        self.assertEqual(value_of(told, variables, call), (0, 0))
        self.assertEqual(seen, [[5, (2, 3)], [(2, 3), 5, 5]])
        self.assertEqual(list(variables.items()), [("x", 1), ("y", (2, 3))])

    def test_a_long_chain(self):
        text = "(let x (+ 9 x (lit 1 9)) " * 25 + "x" + ")" * 25
        self.assertEqual(value(text, x=0), 25 % 9)

    def test_deeper_than_texts_that_are_read(self):
        told = ("var", "x")
        for each in range(150):
            told = ("let", "x", ("op", "+", MOST, told, ("lit", 1, MOST)), ("var", "x"))
        self.assertEqual(value_of(told, {"x": 0}, refusing), 150)


SUMS = "(part p bare (fun none () (num 9) (lit 4 9)) (fun one ((x (num 9))) (num 9) (+ 9 x (none))) " \
       "(fun both ((x (num 9)) (y (pair (num 9) (num 2)))) (pair (num 2) (num 9)) (two (second y) (- 9 x (first y)))) " \
       "(fun three ((a (num 9)) (b (num 9)) (c (num 9))) (num 9) (- 9 a (- 9 b c))) " \
       "(fun four ((d (num 9)) (c (num 9)) (b (num 9)) (a (num 9))) (pair (pair (num 9) (num 9)) (pair (num 9) (num 9)))" \
       " (two (two d c) (two b a))))"
CELL = "(face cell (hid t) (fun make ((num 9)) t) (fun read (t) (num 9)))" \
       "(part one (cell) (kind t (pair (num 9) (num 9))) (fun make ((x (num 9))) t (two x (lit 1 9))) " \
       "(fun read ((x t)) (num 9) (+ 9 (first x) (second x))))"


def linked(text):
    house = read_house(text)
    assert wrong_at(house) is None
    return link(house)


class ProgramTest(unittest.TestCase):
    def test_asked(self):
        program = linked(SUMS)
        for word, values, due in (("none", [], 4), ("one", [3], 7), ("one", [8], 3), ("both", [3, (5, 1)], (1, 7)),
                                  ("three", [8, 7, 3], 4), ("four", [1, 2, 3, 4], ((1, 2), (3, 4)))):
            before = list(values)
            self.assertEqual(ask(program, "p", word, values), due)
            self.assertEqual(values, before)

    def test_run(self):
        program = linked(SUMS)
        for text, due in (("(lit 3 4)", 3), ("(p.none)", 4), ("(p.one (p.one (lit 3 9)))", 2),
                          ("(let x (p.both (lit 3 9) (two (lit 5 9) (lit 1 2))) (second x))", 7),
                          ("(first (p.four (p.none) (lit 1 9) (lit 2 9) (lit 3 9)))", (4, 1)),
                          ("(if (= (p.none) (lit 4 9)) (p.three (lit 1 9) (lit 2 9) (lit 3 9)) (p.none))", 2)):
            self.assertEqual(run(program, read_expression(text)), due, text)

    def test_a_program_of_no_functions(self):
        self.assertEqual(run([], read_expression("(two (lit 1 2) (let x (lit 0 3) x))")), (1, 0))
        with self.assertRaises(NoName):
            run([], read_expression("(p.f)"))
        with self.assertRaises(NoName):
            ask([], "p", "f", [])

    def test_hidden_kinds_are_what_their_parts_make_them_of(self):
        program = linked(CELL)
        self.assertEqual(run(program, read_expression("(one.make (lit 3 9))")), (3, 1))
        self.assertEqual(ask(program, "one", "read", [(3, 8)]), 2)

    def test_functions_that_a_seal_doesnt_tell_are_there_too(self):
        program = linked("(face f (fun g () (num 9))) (part p (f) (fun h () (num 9) (lit 3 9)) (fun g () (num 9) (h)))")
        self.assertEqual(ask(program, "p", "h", []), 3)
        self.assertEqual(run(program, read_expression("(+ 9 (p.g) (p.h))")), 6)

    def test_opened_and_made(self):
        program = linked(CELL + "(part o bare (open one) (fun again ((x t)) t (make (read x)))) "
                                "(maker m ((x cell)) bare (open x) (fun add ((a t) (b t)) t "
                                "(make (+ 9 (x.read a) (read b))))) (made q m o)")
        self.assertEqual(run(program, read_expression("(o.again (one.make (lit 3 9)))")), (4, 1))
        self.assertEqual(ask(program, "q", "add", [(1, 1), (2, 5)]), (0, 1))
        self.assertEqual(ask(program, "q", "read", [(1, 1)]), 2)

    def test_functions_that_are_not_there(self):
        program = linked(SUMS)
        for part, word in (("p", "five"), ("q", "one"), ("", "one"), ("one", "p")):
            with self.assertRaises(NoName):
                ask(program, part, word, [1])
            with self.assertRaises(NoName):
                run(program, ("call", part, word, (("lit", 1, 9),)))

    def test_refused_only_when_the_run_comes_to_it(self):
        program = linked(SUMS)
        self.assertEqual(run(program, read_expression("(if (= (p.none) (lit 4 9)) (lit 1 2) (p.five))")), 1)
        self.assertEqual(run(program, read_expression("(if (< (p.none) (lit 4 9)) (q.f) (lit 0 2))")), 0)
        for text in ("(if (= (p.none) (lit 4 9)) (q.f) (lit 0 2))", "(let x (q.f) (lit 0 2))", "(first (two (p.none) (q.f)))"):
            with self.assertRaises(NoName):
                run(program, read_expression(text))

    def test_a_program_written_by_hand(self):
        nine = ("num", 9)
        program = [(("a", "f"), (("x", nine),), nine, read_expression("(* 9 x x)")),
                   (("b", "f"), (("y", nine), ("x", nine)), nine, read_expression("(a.f (a.f (- 9 x y)))"))]
        self.assertEqual(len(plain_look(program)), 2)
        self.assertEqual(ask(program, "b", "f", [1, 3]), 7)
        program_before = list(program)
        self.assertEqual(run(program, read_expression("(b.f (lit 3 9) (lit 1 9))")), 7)
        self.assertEqual(program, program_before)

    def test_variables_of_the_caller_are_none_of_the_called_ones(self):
        program = [(("a", "f"), (), ("num", 9), ("var", "x"))]
        with self.assertRaises(NoName):
            run(program, read_expression("(let x (lit 1 9) (a.f))"))

    def test_as_deep_as_programs_go(self):
        chain = ["(part p bare (fun f ((x (num 9))) (num 9) x))"]
        words = "abcdefghijklmno"
        for place, word in enumerate(words):
            ahead = words[place - 1] if place else "p"
            chain.append(f"(part {word} bare (open {ahead}) (fun g{word} ((x (num 9))) (num 9) (as 9 (f x))))")
        program = linked("".join(chain))
        told = read_expression("(o.f " * 15 + "(lit 7 9)" + ")" * 15)
        self.assertEqual(run(program, told), 7)
        self.assertEqual(ask(program, "o", "go", [8]), 8)


if __name__ == "__main__":
    unittest.main()

"""Running: a house run as it stands, its crossings and their rows: [32], with marks [33]."""

import unittest

from sealhouse.crossing import Crossing, Marks
from sealhouse.errors import NoMark, NoName
from sealhouse.linker import link
from sealhouse.looker import wrong_at
from sealhouse.reading import read_expression, read_house
from sealhouse.running import House

CELL = "(face cell (hid t) (fun make ((num 9)) t) (fun read (t) (num 9)))"
ONE = "(part one (cell) (fun help ((x (num 9))) (num 9) (+ 9 x (lit 1 9))) (kind t (pair (num 9) (num 2))) " \
      "(fun make ((x (num 9))) t (two (help x) (lit 0 2))) (fun read ((x t)) (num 9) (help (help (first x)))))"
BARE = "(part bare bare (kind t (num 9)) (fun make ((x (num 9))) t x) (fun read ((x t)) (num 9) (* 9 x (lit 2 9))) " \
       "(fun twice ((x t)) (num 9) (+ 9 (read x) (read x))))"
# Opens one, and calls its words as its own and by their far names.
OPENER = "(part opener bare (open one) (fun near ((x t)) (num 9) (read x)) " \
         "(fun over ((x t)) (num 9) (one.read x)) (fun both ((x t)) (num 9) (+ 9 (near x) (over x))))"
SEALED_OPENER = "(part sealed (cell) (open one))"
TWICE = "(maker twice ((x cell) (y cell)) (cell) (kind t (pair x.t y.t)) (fun start ((n (num 9))) x.t (x.make n)) " \
        "(fun make ((n (num 9))) t (two (start n) (y.make n))) " \
        "(fun read ((v t)) (num 9) (+ 9 (x.read (first v)) (y.read (second v)))))"
SHOWN = "(maker shown ((x cell)) bare (open x) (fun help ((n (num 9))) (num 9) (read (make n))))"


def house(text, crossing=None):
    """A House that is let by and links."""
    told = read_house(text)
    assert wrong_at(told) is None, text
    link(told)
    return House(told, crossing)


def use(text):
    return read_expression(text)


class PartsTest(unittest.TestCase):
    def test_a_bare_part(self):
        told = house(BARE)
        self.assertEqual(told.rows, [])
        self.assertEqual(told.ask("bare", "twice", [2]), 8)
        # Calls of own functions cross nothing.
        self.assertEqual(told.rows, [("bare", "twice", (2,), 8)])

    def test_a_sealed_part(self):
        told = house(CELL + ONE)
        self.assertEqual(told.ask("one", "make", [3]), (4, 0))
        self.assertEqual(told.ask("one", "read", [(4, 0)]), 6)
        self.assertEqual(told.rows, [("one", "make", (3,), (4, 0)), ("one", "read", ((4, 0),), 6)])

    def test_a_use(self):
        told = house(CELL + ONE + BARE)
        self.assertEqual(told.run(use("(+ 9 (one.read (one.make (lit 3 9))) (bare.read (lit 4 9)))")), 5)
        self.assertEqual(told.rows, [("one", "make", (3,), (4, 0)), ("one", "read", ((4, 0),), 6),
                                     ("bare", "read", (4,), 8)])

    def test_a_use_that_calls_nothing(self):
        told = house(CELL)
        self.assertEqual(told.run(use("(let x (lit 2 3) (two x x))")), (2, 2))
        self.assertEqual(told.rows, [])
        self.assertEqual(House([]).run(use("(lit 2 3)")), 2)

    def test_calls_from_another_part(self):
        told = house(CELL + ONE + "(part user bare (fun f ((x (num 9))) (num 9) "
                                  "(+ 9 (one.read (one.make (lit 0 9))) (one.read (one.make x)))))")
        self.assertEqual(told.ask("user", "f", [3]), 0)
        self.assertEqual(told.rows, [("one", "make", (0,), (1, 0)), ("one", "read", ((1, 0),), 3),
                                     ("one", "make", (3,), (4, 0)), ("one", "read", ((4, 0),), 6),
                                     ("user", "f", (3,), 0)])

    def test_an_argument_ends_ahead_of_the_call(self):
        told = house(BARE)
        told.run(use("(bare.read (bare.read (lit 1 9)))"))
        self.assertEqual(told.rows, [("bare", "read", (1,), 2), ("bare", "read", (2,), 4)])

    def test_functions_of_no_and_of_four_arguments(self):
        told = house("(part p bare (fun none () (num 9) (lit 7 9)) (fun four ((a (num 9)) (b (num 9)) (c (num 9)) "
                     "(d (num 9))) (pair (pair (num 9) (num 9)) (pair (num 9) (num 9))) (two (two a b) (two c d))))")
        self.assertEqual(told.ask("p", "none", []), 7)
        self.assertEqual(told.ask("p", "four", [1, 2, 3, 4]), ((1, 2), (3, 4)))
        self.assertEqual(told.rows, [("p", "none", (), 7), ("p", "four", (1, 2, 3, 4), ((1, 2), (3, 4)))])


class OpenedTest(unittest.TestCase):
    def rows(self, text, part, word, values):
        told = house(text)
        told.ask(part, word, values)
        return told.rows

    def test_from_outside_it_crosses_into_both(self):
        self.assertEqual(self.rows(CELL + ONE + OPENER, "opener", "make", [3]),
                         [("one", "make", (3,), (4, 0)), ("opener", "make", (3,), (4, 0))])

    def test_from_another_part_it_crosses_into_both(self):
        user = "(part user bare (fun f ((x (num 9))) (num 9) (opener.read (one.make x))))"
        self.assertEqual(self.rows(CELL + ONE + OPENER + user, "user", "f", [3]),
                         [("one", "make", (3,), (4, 0)), ("one", "read", ((4, 0),), 6),
                          ("opener", "read", ((4, 0),), 6), ("user", "f", (3,), 6)])

    def test_by_its_own_part_it_crosses_into_the_opened_one_alone(self):
        read = ("one", "read", ((4, 0),), 6)
        self.assertEqual(self.rows(CELL + ONE + OPENER, "opener", "near", [(4, 0)]),
                         [read, ("opener", "near", ((4, 0),), 6)])
        self.assertEqual(self.rows(CELL + ONE + OPENER, "opener", "over", [(4, 0)]),
                         [read, ("opener", "over", ((4, 0),), 6)])
        self.assertEqual(self.rows(CELL + ONE + OPENER, "opener", "both", [(4, 0)]),
                         [read, read, ("opener", "both", ((4, 0),), 3)])

    def test_opened_through_several_parts(self):
        text = CELL + ONE + "(part p bare (open one)) (part q (cell) (open p)) (part r bare (open q) " \
                            "(fun last ((n (num 9))) (num 9) (read (make n))))"
        make = [(part, "make", (3,), (4, 0)) for part in ("one", "p", "q")]
        read = [(part, "read", ((4, 0),), 6) for part in ("one", "p", "q")]
        self.assertEqual(self.rows(text, "r", "make", [3]), make + [("r", "make", (3,), (4, 0))])
        self.assertEqual(self.rows(text, "r", "last", [3]), make + read + [("r", "last", (3,), 6)])


class MadeTest(unittest.TestCase):
    def test_formals_functions(self):
        told = house(CELL + ONE + BARE + TWICE + "(made p twice one bare)")
        self.assertEqual(told.ask("p", "make", [3]), ((4, 0), 3))
        self.assertEqual(told.rows, [("one", "make", (3,), (4, 0)), ("bare", "make", (3,), 3),
                                     ("p", "make", (3,), ((4, 0), 3))])
        self.assertEqual(told.ask("p", "read", [((4, 0), 3)]), 3)
        self.assertEqual(told.rows[3:], [("one", "read", ((4, 0),), 6), ("bare", "read", (3,), 6),
                                         ("p", "read", (((4, 0), 3),), 3)])

    def test_made_of_a_made_part_with_words_of_formals(self):
        told = house(CELL + TWICE + ONE + BARE + "(made y twice one bare) (made x twice bare y)")
        self.assertEqual(told.ask("x", "make", [3]), (3, ((4, 0), 3)))
        self.assertEqual([row[:2] for row in told.rows], [("bare", "make"), ("one", "make"), ("bare", "make"),
                                                          ("y", "make"), ("x", "make")])

    def test_an_opened_formal(self):
        told = house(CELL + ONE + SHOWN + "(made p shown one)")
        self.assertEqual(told.ask("p", "make", [3]), (4, 0))
        self.assertEqual(told.rows, [("one", "make", (3,), (4, 0)), ("p", "make", (3,), (4, 0))])
        self.assertEqual(told.ask("p", "help", [3]), 6)
        self.assertEqual(told.rows[2:], [("one", "make", (3,), (4, 0)), ("one", "read", ((4, 0),), 6), ("p", "help", (3,), 6)])

    def test_an_opened_formal_brings_what_it_wants_alone(self):
        more = "(part more bare (open bare) (fun help ((n (num 9))) (num 9) (lit 0 9)))"
        told = house(CELL + BARE + more + SHOWN + "(made p shown more)")
        self.assertEqual(told.ask("p", "help", [3]), 6)
        self.assertEqual(told.rows[-1], ("p", "help", (3,), 6))
        with self.assertRaises(NoName):
            told.ask("p", "twice", [3])

    def test_a_part_with_the_word_of_a_formal_is_another_one(self):
        told = house(CELL + TWICE + ONE + BARE.replace("part bare", "part x") + "(made p twice one one)")
        told.ask("p", "make", [3])
        self.assertEqual([row[0] for row in told.rows], ["one", "one", "p"])

    def test_a_maker_that_names_a_part_ahead(self):
        told = house(CELL + ONE + BARE + "(maker m ((x cell)) bare (open bare) (fun f ((n (num 9))) (num 9) "
                                         "(+ 9 (one.read (one.make n)) (+ 9 (read n) (x.read (x.make n))))))"
                     + "(made p m one)")
        self.assertEqual(told.ask("p", "f", [3]), 0)
        self.assertEqual([row[:2] for row in told.rows], [("one", "make"), ("one", "read"), ("bare", "read"),
                                                          ("one", "make"), ("one", "read"), ("p", "f")])


class RefusedTest(unittest.TestCase):
    def test_what_no_seen_face_tells(self):
        told = house(CELL + ONE + BARE + OPENER + TWICE + "(made p twice one one)")
        for part, word in (("one", "help"), ("p", "start"), ("p", "help"), ("opener", "help"), ("bare", "none"),
                           ("none", "read"), ("cell", "read"), ("twice", "read"), ("x", "read"), ("", "read"), ("one", "t")):
            with self.assertRaises(NoName, msg=(part, word)):
                told.ask(part, word, [1])
            with self.assertRaises(NoName, msg=(part, word)):
                told.run(("call", part, word, (("lit", 1, 9),)))
        self.assertEqual(told.rows, [])

    def test_refused_when_the_run_comes_to_it(self):
        told = house(CELL + ONE)
        self.assertEqual(told.run(use("(if (= (one.read (one.make (lit 3 9))) (lit 6 9)) (lit 1 2) (one.help (lit 3 9)))")), 1)
        rows = [("one", "make", (3,), (4, 0)), ("one", "read", ((4, 0),), 6)]
        self.assertEqual(told.rows, rows)
        # The calls that had ended keep their rows.
        with self.assertRaises(NoName):
            told.run(use("(two (one.make (lit 3 9)) (one.read (one.none (one.make (lit 0 9)))))"))
        self.assertEqual(told.rows, rows + [("one", "make", (3,), (4, 0)), ("one", "make", (0,), (1, 0))])

    def test_a_refused_call_keeps_no_row(self):
        told = house(CELL + ONE + BARE, Marks())
        for value in (3, (4, 0), ("mark", 1)):
            with self.assertRaises(NoMark):
                told.ask("one", "read", [value])
        self.assertEqual(told.rows, [])
        with self.assertRaises(NoMark):
            told.run(use("(+ 9 (bare.read (lit 1 9)) (one.read (lit 1 9)))"))
        self.assertEqual(told.rows, [("bare", "read", (1,), 2)])

    def test_calls_around_a_refused_one_keep_no_row(self):
        # Within user the mark is refused at a crossing into one, so that neither call has ended.
        class Broken(Crossing):
            def inward(self, part, kind, value):
                if part == "one" and kind[0] == "name":
                    raise NoMark("none is taken")
                return value

        told = house(CELL + ONE + "(part user bare (fun f ((x (num 9))) (num 9) (one.read (one.make x))))", Broken())
        with self.assertRaises(NoMark):
            told.ask("user", "f", [3])
        self.assertEqual(told.rows, [("one", "make", (3,), (4, 0))])


class RowsTest(unittest.TestCase):
    def test_one_behind_the_other(self):
        told = house(CELL + ONE)
        rows = []
        for number in range(3):
            told.ask("one", "make", [number])
            rows.append(("one", "make", (number,), (number + 1, 0)))
            self.assertEqual(told.rows, rows)
            told.run(use("(one.read (one.make (lit 5 9)))"))
            rows += [("one", "make", (5,), (6, 0)), ("one", "read", ((6, 0),), 8)]
            self.assertEqual(told.rows, rows)

    def test_rows_that_were_read_stay(self):
        told = house(CELL + ONE)
        told.ask("one", "make", [1])
        before = told.rows
        told.run(use("(one.make (lit 3 9))"))
        between = told.rows
        told.ask("one", "make", [2])
        self.assertEqual(before, [("one", "make", (1,), (2, 0))])
        self.assertEqual(between, before + [("one", "make", (3,), (4, 0))])
        self.assertEqual(told.rows, between + [("one", "make", (2,), (3, 0))])

    def test_each_house_has_its_own(self):
        text = CELL + ONE
        one, other = house(text), house(text)
        one.ask("one", "make", [1])
        self.assertEqual((len(one.rows), other.rows), (1, []))

    def test_what_is_handed_in_stays_and_may_be_changed_behind_it(self):
        told = read_house(CELL + ONE)
        before = list(told)
        running = House(told)
        values = [3]
        running.ask("one", "make", values)
        self.assertEqual((values, told), ([3], before))
        values.append(4)
        told.clear()
        self.assertEqual(running.rows, [("one", "make", (3,), (4, 0))])
        self.assertEqual(running.ask("one", "make", [3]), (4, 0))

    def test_as_deep_as_houses_go(self):
        text = "(part a bare (fun f ((x (num 9))) (num 9) x))"
        for ahead, word in zip("abcdefghijklmno", "bcdefghijklmnop"):
            text += f"(part {word} bare (open {ahead}))"
        told = house(text)
        self.assertEqual(told.run(use("(p.f " * 20 + "(lit 5 9)" + ")" * 20)), 5)
        self.assertEqual([row[0] for row in told.rows], list("abcdefghijklmnop") * 20)


class MarksTest(unittest.TestCase):
    def test_rows_as_the_caller_has_them(self):
        marks = Marks()
        told = house(CELL + ONE, marks)
        made = told.ask("one", "make", [3])
        self.assertEqual(made, ("mark", 1))
        self.assertEqual(told.ask("one", "read", [made]), 6)
        self.assertEqual(told.rows, [("one", "make", (3,), ("mark", 1)), ("one", "read", (("mark", 1),), 6)])
        self.assertEqual(marks.behind(made), ("one", "t", (4, 0)))
        self.assertEqual(marks.bared(made), (4, 0))

    def test_a_bare_part_hides_nothing(self):
        told = house(BARE, Marks())
        self.assertEqual(told.run(use("(bare.read (bare.make (lit 3 9)))")), 6)
        self.assertEqual(told.rows, [("bare", "make", (3,), 3), ("bare", "read", (3,), 6)])

    def test_marks_within_marks(self):
        marks = Marks(10, 5)
        told = house(CELL + ONE + SEALED_OPENER + TWICE + "(made p twice sealed one)", marks)
        made = told.run(use("(p.make (lit 3 9))"))
        self.assertEqual(told.rows, [("one", "make", (3,), ("mark", 10)), ("sealed", "make", (3,), ("mark", 15)),
                                     ("one", "make", (3,), ("mark", 20)), ("p", "make", (3,), ("mark", 25))])
        self.assertEqual(marks.behind(made), ("p", "t", (("mark", 15), ("mark", 20))))
        self.assertEqual(marks.behind(("mark", 15)), ("sealed", "t", ("mark", 10)))
        self.assertEqual(marks.bared(made), ((4, 0), (4, 0)))
        self.assertEqual(told.ask("p", "read", [made]), 3)
        self.assertEqual(told.rows[4:], [("one", "read", (("mark", 10),), 6), ("sealed", "read", (("mark", 15),), 6),
                                         ("one", "read", (("mark", 20),), 6), ("p", "read", (("mark", 25),), 3)])

    def test_an_opened_word_hands_marks_of_the_opened_part_on(self):
        told = house(CELL + ONE + OPENER, Marks())
        self.assertEqual(told.run(use("(opener.both (opener.make (lit 3 9)))")), 3)
        mark = ("mark", 1)
        self.assertEqual(told.rows, [("one", "make", (3,), mark), ("opener", "make", (3,), mark), ("one", "read", (mark,), 6),
                                     ("one", "read", (mark,), 6), ("opener", "both", (mark,), 3)])

    def test_marks_of_another_part_are_refused(self):
        other = ONE.replace("part one", "part other")
        told = house(CELL + ONE + other, Marks())
        made = told.ask("other", "make", [3])
        with self.assertRaises(NoMark):
            told.ask("one", "read", [made])
        self.assertEqual(told.ask("other", "read", [made]), 6)
        self.assertEqual(len(told.rows), 2)

    def test_values_go_inward_from_the_first_to_the_last(self):
        class Noting(Crossing):
            def __init__(self):
                self.noted = []

            def inward(self, part, kind, value):
                self.noted.append(("in", part, kind, value))
                return value

            def outward(self, part, kind, value):
                self.noted.append(("out", part, kind, value))
                return value

        noting = Noting()
        house(CELL + "(face f (hid t) (fun g (t (num 9) t) (pair t t))) (part p (f) (kind t (num 3)) "
                     "(fun g ((a t) (b (num 9)) (c t)) (pair t t) (two c a)))", noting).ask("p", "g", [0, 1, 2])
        hidden = ("name", "p", "t")
        self.assertEqual(noting.noted, [("in", "p", hidden, 0), ("in", "p", ("num", 9), 1), ("in", "p", hidden, 2),
                                        ("out", "p", ("pair", hidden, hidden), (2, 0))])

    def test_two_words_of_one_hidden_kind(self):
        marks = Marks()
        told = house("(face f (hid t) (told s t) (fun a () s) (fun b (t s) (num 9))) (part p (f) (kind s (num 9)) "
                     "(kind t s) (fun a () t (lit 4 9)) (fun b ((x s) (y t)) (num 9) (+ 9 x y)))", marks)
        self.assertEqual(told.run(use("(p.b (p.a) (p.a))")), 8)
        self.assertEqual(marks.behind(("mark", 2)), ("p", "t", 4))

    def test_shared_kinds(self):
        marks = Marks()
        told = house(CELL + ONE + "(maker m ((x cell)) (cell (t x.t)) (open x)) (made p m one)", marks)
        made = told.ask("p", "make", [3])
        self.assertEqual(marks.behind(made), ("one", "t", (4, 0)))
        self.assertEqual(told.ask("one", "read", [made]), 6)

    def test_a_plain_crossing_that_is_handed_in(self):
        told = house(CELL + ONE, Crossing())
        self.assertEqual(told.ask("one", "read", [(4, 0)]), 6)


if __name__ == "__main__":
    unittest.main()

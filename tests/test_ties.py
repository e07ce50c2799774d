"""Ties: the least tie, or a use that parts two parts: [37]."""

import unittest

from samples import SameTest, exchanged_calls
from sealhouse.crossing import Marks
from sealhouse.errors import NotPlain
from sealhouse.expressions import calls_in
from sealhouse.linker import link
from sealhouse.looker import kind_of, look, wrong_at
from sealhouse.papers import fails
from sealhouse.reading import read_house
from sealhouse.runner import run
from sealhouse.running import House
from sealhouse.ties import tie
from sealhouse.writing import expression_text

# A counter that tells after so many steps that it came round.
CLOCK = "(face clock (hid t) (fun begin () t) (fun tick (t) t) (fun late (t) (num 2)))"


def clock(word, size, late, step=1):
    return f"(part {word} (clock) (kind t (num {size})) (fun begin () t (lit 0 {size})) (fun tick ((x t)) t " \
           f"(+ {size} x (lit {step} {size}))) (fun late ((x t)) (num 2) (= x (lit {late} {size}))))"


def house(text):
    """A house that is let by and links."""
    told = read_house(text)
    assert wrong_at(told) is None, text
    link(told)
    return told


def both(face, p, q, ahead=""):
    """A house with a face and two parts p and q behind it."""
    return house(f"{ahead} (face f {face}) (part p (f) {p}) (part q (f) {q})")


class TiedTest(SameTest):
    def tied(self, told, rows, p="p", q="q"):
        found = tie(told, p, q)
        self.assertEqual(found, ("tied", rows))
        self.assertIsInstance(found[1], list)
        self.assertIsNone(fails(told, p, q, rows))
        return found

    def test_in_one_round(self):
        told = both("(hid t) (fun make ((num 3)) t)", "(kind t (num 3)) (fun make ((x (num 3))) t (- 3 (lit 2 3) x))",
                    "(kind t (pair (num 2) (num 3))) (fun make ((x (num 3))) t (two (lit 1 2) x))")
        self.tied(told, [("t", 0, (1, 2)), ("t", 1, (1, 1)), ("t", 2, (1, 0))])
        self.tied(told, [("t", (1, 0), 2), ("t", (1, 1), 1), ("t", (1, 2), 0)], "q", "p")

    def test_in_several_rounds(self):
        told = house(CLOCK + clock("p", 4, 3) + clock("q", 4, 1, 3))
        self.tied(told, [("t", 0, 0), ("t", 1, 3), ("t", 2, 2), ("t", 3, 1)])

    def test_values_tied_to_several(self):
        # The one comes round twice while the other comes round once.
        even = "(part q (clock) (kind t (num 6)) (fun begin () t (lit 0 6)) (fun tick ((x t)) t (+ 6 x (lit 1 6))) " \
               "(fun late ((x t)) (num 2) (= (as 3 x) (lit 2 3))))"
        told = house(CLOCK + clock("p", 3, 2) + even)
        self.tied(told, [("t", number % 3, number) for number in (0, 3, 1, 4, 2, 5)])
        self.tied(told, [("t", number, number % 3) for number in range(6)], "q", "p")

    def test_values_that_no_use_comes_to_are_left_out(self):
        told = house(CLOCK + clock("p", 9, 3, 3) + clock("q", 18, 6, 6))
        self.tied(told, [("t", 0, 0), ("t", 3, 6), ("t", 6, 12)])

    def test_a_part_and_itself(self):
        told = house(CLOCK + clock("p", 5, 3))
        self.tied(told, [("t", number, number) for number in range(5)], "p", "p")

    def test_no_rows(self):
        told = both("(hid t) (fun f (t) (num 2))", "(kind t (num 2)) (fun f ((x t)) (num 2) x)",
                    "(kind t (num 2)) (fun f ((x t)) (num 2) (- 2 x (lit 1 2)))")
        # No use comes to any hidden value, so none tells them apart.
        self.tied(told, [])
        self.tied(house("(part p bare) (part q bare)"), [])
        self.tied(house("(part p bare (fun f ((x (num 9))) (num 9) (+ 9 x x))) "
                        "(part q bare (fun f ((x (num 9))) (num 9) (* 9 x (lit 2 9))))"), [])

    def test_several_hidden_kinds_within_pairs(self):
        face = "(hid t) (hid s) (fun begin () (pair s (pair (num 2) t))) (fun turn (s t) (pair t s))"
        told = both(face, "(kind t (num 2)) (kind s (num 2)) (fun begin () (pair s (pair (num 2) t)) (two (lit 0 2) (two "
                          "(lit 1 2) (lit 0 2)))) (fun turn ((x s) (y t)) (pair t s) (two (+ 2 y (lit 1 2)) x))",
                    "(kind t (num 4)) (kind s (pair (num 1) (num 1))) (fun begin () (pair s (pair (num 2) t)) (two (two "
                    "(lit 0 1) (lit 0 1)) (two (lit 1 2) (lit 1 4)))) (fun turn ((x s) (y t)) (pair t s) "
                    "(two (- 4 (lit 3 4) y) x))")
        self.tied(told, [("s", 0, (0, 0)), ("t", 0, 1), ("t", 1, 2)])

    def test_words_are_those_of_the_least_form(self):
        told = house("(face f (hid t) (told s t) (fun g () s)) (part p (f) (kind t (num 2)) (kind s t) (fun g () t "
                     "(lit 1 2))) (part q (f) (kind s (num 3)) (kind t s) (fun g () t (lit 2 3)))")
        self.tied(told, [("s", 1, 2)])

    def test_made_and_bare_parts(self):
        maker = "(maker slow ((x clock)) (clock) (kind t (pair (num 2) x.t)) (fun begin () t (two (lit 0 2) (x.begin))) " \
                "(fun tick ((v t)) t (if (first v) (two (lit 0 2) (x.tick (second v))) (two (lit 1 2) (second v)))) " \
                "(fun late ((v t)) (num 2) (x.late (second v))))"
        told = house(CLOCK + clock("p", 2, 1) + clock("q", 2, 1) + maker + "(made pp slow p) (made qq slow q)")
        rows = [("t", (half, number), (half, number)) for half in (0, 1) for number in (0, 1)]
        self.tied(told, rows, "pp", "qq")
        self.assertEqual(tie(told, "p", "qq")[0], "parted")

    def test_bounds_of_rows(self):
        for sizes, due in (((64,), "tied"), ((65,), "open"), ((8, 8), "tied"), ((13, 5), "open"), ((4, 4, 4), "tied"),
                           ((10 ** 18,), "open"), ((16, 4, 1, 1), "tied"), ((17, 4, 1, 1), "open")):
            kinds = " ".join(f"(num {size})" for size in sizes)
            params = " ".join(f"({name} (num {size}))" for name, size in zip("abcd", sizes))
            items = f"(fun f ({params}) (num 2) (lit 1 2))"
            self.assertEqual(tie(both(f"(fun f ({kinds}) (num 2))", items, items), "p", "q")[0], due, sizes)

    def test_bounds_of_rows_by_pairs_known(self):
        face = "(hid t) (fun make ((num {})) t) (fun mix (t t) (num 2))"
        items = "(kind t (num {0})) (fun make ((x (num {0}))) t x) (fun mix ((x t) (y t)) (num 2) (lit 1 2))"
        self.assertEqual(tie(both(face.format(8), items.format(8), items.format(8)), "p", "q"),
                         ("tied", [("t", number, number) for number in range(8)]))
        self.assertEqual(tie(both(face.format(9), items.format(9), items.format(9)), "p", "q"), ("open",))

    def test_bounds_of_pairs(self):
        face = "(hid t) (fun make ((num {})) t)"
        items = "(kind t (num {0})) (fun make ((x (num {0}))) t x)"
        for size, due in ((15, "tied"), (16, "tied"), (17, "open"), (64, "open")):
            told = both(face.format(size), items.format(size), items.format(size))
            self.assertEqual(tie(told, "p", "q")[0], due)

    def test_bounds_of_pairs_that_come_one_by_one(self):
        for size, due in ((16, "tied"), (17, "open")):
            told = house(CLOCK + clock("p", size, 3) + clock("q", size, 3))
            self.assertEqual(tie(told, "p", "q")[0], due)

    def test_pairs_of_all_hidden_kinds_count(self):
        face = "(hid s) (hid t) (fun make ((num {0})) s) (fun maket ((num 8)) t)"
        items = "(kind s (num {0})) (kind t (num 8)) (fun make ((x (num {0}))) s x) (fun maket ((x (num 8))) t x)"
        for size, due in ((8, "tied"), (9, "open")):
            told = both(face.format(size), items.format(size), items.format(size))
            self.assertEqual(tie(told, "p", "q")[0], due)

    def test_great_nums_beside_hidden_kinds_without_rows(self):
        most = 10 ** 18
        items = f"(kind t (num 2)) (fun f ((x t) (y (num {most}))) (num 2) x)"
        told = both(f"(hid t) (fun f (t (num {most})) (num 2))", items, items)
        self.assertEqual(tie(told, "p", "q"), ("tied", []))
        # As soon as there is a row, all values of the num are due.
        items += "(fun g () t (lit 1 2))"
        told = both(f"(hid t) (fun g () t) (fun f (t (num {most})) (num 2))", items, items)
        self.assertEqual(tie(told, "p", "q"), ("open",))

    def test_refused(self):
        told = house(CLOCK + clock("p", 2, 1) + "(part q bare) (part r bare (fun f () p.t (p.begin)))")
        self.no_fit("q", "", None, None, lambda: tie(told, "p", "q"))
        with self.assertRaises(NotPlain):
            tie(told, "r", "r")

    def test_what_is_handed_in_stays_and_what_is_given_is_new(self):
        told = house(CLOCK + clock("p", 3, 2) + clock("q", 3, 2))
        before = list(told)
        tie(told, "p", "q")[1].clear()
        self.assertEqual(told, before)
        self.assertEqual(len(tie(told, "p", "q")[1]), 3)


class PartedTest(unittest.TestCase):
    def parted(self, told, p="p", q="q"):
        """The use that is told, which parts them."""
        found = tie(told, p, q)
        self.assertEqual((len(found), found[0]), (2, "parted"))
        use = found[1]
        turned = exchanged_calls(use, q)
        seen = look(told)
        self.assertEqual(kind_of(seen, use)[0], "num")
        self.assertEqual(kind_of(seen, turned), kind_of(seen, use))
        self.assertEqual({part for part, word in calls_in(use)}, {p})
        program = link(told)
        self.assertNotEqual(run(program, use), run(program, turned))
        self.assertNotEqual(House(told, Marks()).run(use), House(told, Marks()).run(turned))
        return use

    def test_at_once(self):
        told = both("(fun f () (num 9))", "(fun f () (num 9) (lit 1 9))", "(fun f () (num 9) (lit 2 9))")
        self.assertEqual(self.parted(told), ("call", "p", "f", ()))
        self.assertEqual(self.parted(told, "q", "p"), ("call", "q", "f", ()))
        told = both("(fun f ((num 9)) (num 9))", "(fun f ((x (num 9))) (num 9) x)",
                    "(fun f ((x (num 9))) (num 9) (if (= x (lit 7 9)) (lit 0 9) x))")
        self.assertEqual(self.parted(told), ("call", "p", "f", (("lit", 7, 9),)))

    def test_at_a_deeper_call(self):
        for size in range(2, 16):
            told = house(CLOCK + clock("p", 16, size - 1) + clock("q", 16, size))
            use = self.parted(told)
            self.assertEqual(expression_text(use).count("p.tick"), size - 1)
            self.parted(told, "q", "p")

    def test_at_the_last_round_there_is(self):
        # Fifteen steps bring the sixteenth pair, and only that one is read otherwise.
        told = house(CLOCK + clock("p", 16, 15) + clock("q", 16, 15).replace(
            "(= x (lit 15 16))", "(< (lit 0 1) (lit 0 1))"))
        self.assertEqual(expression_text(self.parted(told)).count("p.tick"), 15)

    def test_within_a_pair(self):
        told = both("(hid t) (fun f () (pair t (pair (num 2) (num 9))))",
                    "(kind t (num 2)) (fun f () (pair t (pair (num 2) (num 9))) (two (lit 0 2) (two (lit 1 2) (lit 5 9))))",
                    "(kind t (num 3)) (fun f () (pair t (pair (num 2) (num 9))) (two (lit 2 3) (two (lit 1 2) (lit 6 9))))")
        self.assertEqual(self.parted(told), ("second", ("second", ("call", "p", "f", ()))))

    def test_hidden_values_from_within_a_pair(self):
        told = both("(hid t) (fun f ((num 2)) (pair (num 2) (pair t (num 1)))) (fun g ((pair (pair t (num 2)) t)) (num 9))",
                    "(kind t (num 2)) (fun f ((x (num 2))) (pair (num 2) (pair t (num 1))) (two x (two x (lit 0 1)))) "
                    "(fun g ((x (pair (pair t (num 2)) t))) (num 9) (lit 0 9))",
                    "(kind t (pair (num 2) (num 2))) (fun f ((x (num 2))) (pair (num 2) (pair t (num 1))) (two x (two "
                    "(two x x) (lit 0 1)))) (fun g ((x (pair (pair t (num 2)) t))) (num 9) (if (= (first (first (first x))) "
                    "(first (second x))) (lit 0 9) (if (= (second (first x)) (first (second x))) (lit 0 9) (lit 3 9))))")
        self.parted(told)
        self.parted(told, "q", "p")

    def test_pairs_that_would_double_with_each_round(self):
        # Each step needs all that is known four times over.
        face = "(hid t) (fun begin () t) (fun mix (t t) t) (fun late (t) (num 2))"
        items = "(kind t (num {0})) (fun begin () t (lit 0 {0})) (fun mix ((x t) (y t)) t (if (= x y) " \
                "(+ {0} x (lit 1 {0})) (lit 0 {0}))) (fun late ((x t)) (num 2) (= x (lit {1} {0})))"
        told = both(face, items.format(9, 7), items.format(9, 8))
        use = self.parted(told)
        self.assertLess(len(expression_text(use)), 1000)

    def test_a_wide_use_is_told_and_handed_on(self):
        # Arguments of kinds of 39 words, hidden values deep within answers, step by step.
        kind = "t"
        for each in range(19):
            kind = f"(pair (num 1) {kind})"
        deep = "{}"
        for each in range(19):
            deep = f"(two (lit 0 1) {deep})"
        last = "x"
        for each in range(19):
            last = f"(second {last})"
        face = f"(hid t) (fun begin () {kind}) (fun tick ({kind} {kind} {kind} {kind}) {kind}) (fun late ({kind}) (num 2))"
        items = "(kind t (num 3)) (fun back ((x KIND)) t LAST) (fun make ((x t)) KIND DEEP) (fun begin () KIND (make (lit 0 3)))" \
                "(fun tick ((x KIND) (a KIND) (b KIND) (c KIND)) KIND (make (+ 3 (back x) (lit 1 3)))) " \
                "(fun late ((x KIND)) (num 2) (= (back x) (lit WHEN 3)))"
        items = items.replace("KIND", kind).replace("LAST", last).replace("DEEP", deep.format("x"))
        for one, other in (("2", "1"), ("2", "0")):
            told = both(face, items.replace("WHEN", one), items.replace("WHEN", other))
            self.parted(told)
            self.parted(told, "q", "p")

    def test_parted_ahead_of_too_many_pairs(self):
        # The round that would make seventeen pairs parts them, too.
        face = "(hid t) (fun make ((num 20)) t) (fun z () (num 2))"
        items = "(kind t (num 20)) (fun make ((x (num 20))) t x) (fun z () (num 2) (lit {} 2))"
        told = both(face, items.format(0), items.format(1))
        self.assertEqual(self.parted(told), ("call", "p", "z", ()))

    def test_parted_behind_too_many_rows(self):
        # A function with too many rows goes ahead of one that parts them, in the same round.
        for word in ("a", "z"):
            face = f"(fun {word} () (num 2)) (fun m ((num 65)) (num 2))"
            items = f"(fun {word} () (num 2) (lit {{}} 2)) (fun m ((x (num 65))) (num 2) (lit 0 2))"
            told = both(face, items.format(0), items.format(1))
            self.assertEqual(tie(told, "p", "q"), ("open",))

    def test_parted_in_a_round_ahead_of_one_of_too_many_rows(self):
        # By the pairs of the first round there would be 81 rows, but the first round parts them already.
        face = "(hid t) (fun make ((num 9)) t) (fun mix (t t) (num 2)) (fun z () (num 2))"
        items = "(kind t (num 9)) (fun make ((x (num 9))) t x) (fun mix ((x t) (y t)) (num 2) (lit 1 2)) " \
                "(fun z () (num 2) (lit {} 2))"
        self.parted(both(face, items.format(0), items.format(1)))

    def test_made_parts(self):
        maker = "(maker again ((x clock)) (clock) (kind t x.t) (fun begin () t (x.tick (x.begin))) (fun tick ((v t)) t " \
                "(x.tick (x.tick v))) (fun late ((v t)) (num 2) (x.late v)))"
        told = house(CLOCK + clock("one", 9, 3) + clock("other", 9, 7) + maker
                     + "(made p again one) (made q again other)")
        use = self.parted(told)
        self.assertIn("p.begin", expression_text(use))


if __name__ == "__main__":
    unittest.main()

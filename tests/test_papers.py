"""Papers: parts behind one face [35], papers that hold or fail [36]."""

import unittest

from samples import SameTest, own, pair
from sealhouse.errors import NoFit, NotPlain, TooWide
from sealhouse.linker import link
from sealhouse.looker import wrong_at
from sealhouse.papers import behind_one_face, fails, tied
from sealhouse.reading import read_house
from sealhouse.trees import text_of, trees_of

T = own("t")
NINE = ("num", 9)
CELL = "(face cell (hid t) (fun make ((num 9)) t) (fun read (t) (num 9)))"
ONE_PART = "(part one (cell) (kind t (num 9)) (fun make ((x (num 9))) t x) (fun read ((x t)) (num 9) x))"
SHIFTED = "(part shifted (cell) (kind t (num 10)) (fun make ((x (num 9))) t (+ 10 (as 10 x) (lit 1 10))) " \
          "(fun read ((x t)) (num 9) (as 9 (- 10 x (lit 1 10)))))"
PAIRED = "(part paired (cell) (kind t (pair (num 2) (num 9))) (fun make ((x (num 9))) t (two (lit 1 2) x)) " \
         "(fun read ((x t)) (num 9) (second x)))"
CELL_FORM = ((("t", T),), (("make", (NINE,), T), ("read", (T,), NINE)))


def house(text):
    """A house that is let by and links."""
    told = read_house(text)
    assert wrong_at(told) is None, text
    link(told)
    return told


class OneFaceTest(SameTest):
    def apart(self, text, p, q):
        told = house(text)
        self.no_fit(q, "", None, None, lambda: behind_one_face(told, p, q))
        self.no_fit(p, "", None, None, lambda: behind_one_face(told, q, p))

    def test_one_declared_face(self):
        told = house(CELL + ONE_PART + SHIFTED)
        for p, q in (("one", "shifted"), ("shifted", "one"), ("one", "one"), ("shifted", "shifted")):
            self.assertEqual(behind_one_face(told, p, q), CELL_FORM)

    def test_two_faces_of_one_least_form(self):
        other = "(face other (hid t) (fun read (t) (num 9)) (fun make ((num 9)) t))"
        told = house(CELL + ONE_PART + other + SHIFTED.replace("(cell)", "(other)"))
        self.assertEqual(behind_one_face(told, "one", "shifted"), CELL_FORM)

    def test_two_words_of_one_hidden_kind(self):
        told = house("(face f (hid t) (told s t) (fun g (s) t)) (face h (hid s) (told t s) (fun g (t) t)) "
                     "(part p (f) (kind t (num 9)) (kind s t) (fun g ((x t)) s x)) "
                     "(part q (h) (kind s (num 2)) (kind t s) (fun g ((x t)) s x))")
        least = own("s")
        self.assertEqual(behind_one_face(told, "p", "q"), ((("s", least), ("t", least)), (("g", (least,), least),)))
        self.assertIsNone(fails(told, "p", "q", [("s", 1, 1)]))
        # The rows' words are those of the least form, so a row of the other word says nothing.
        self.assertIsNone(fails(told, "p", "q", [("t", 1, 1)]))

    def test_two_words_of_one_hidden_kind_in_one_face_alone(self):
        self.apart("(face f (hid t) (told s t)) (face h (hid s) (hid t)) (part p (f) (kind t (num 9)) (kind s t)) "
                   "(part q (h) (kind s (num 9)) (kind t s))", "p", "q")

    def test_made_parts(self):
        maker = "(maker twice ((x cell)) (cell) (kind t (pair x.t x.t)) (fun make ((n (num 9))) t " \
                "(two (x.make n) (x.make n))) (fun read ((v t)) (num 9) (x.read (second v))))"
        told = house(CELL + ONE_PART + SHIFTED + maker + "(made p twice one) (made q twice shifted) (made x twice q)")
        for p in ("one", "p", "q", "x"):
            for q in ("shifted", "p", "q", "x"):
                self.assertEqual(behind_one_face(told, p, q), CELL_FORM)

    def test_bare_parts(self):
        told = house("(part p bare (kind t (num 9)) (fun f ((x t)) t x)) (part q bare (fun f ((y (num 9))) (num 9) "
                     "(lit 1 9)) (kind t (num 9))) (part r bare (kind t (num 8)) (fun f ((x t)) t x))")
        self.assertEqual(behind_one_face(told, "p", "q"), ((("t", NINE),), (("f", (NINE,), NINE),)))
        self.no_fit("r", "", None, None, lambda: behind_one_face(told, "p", "r"))

    def test_parts_of_nothing(self):
        self.assertEqual(behind_one_face(house("(face f) (part p bare) (part q (f))"), "p", "q"), ((), ()))

    def test_unlike_least_forms(self):
        self.apart(CELL + ONE_PART + "(part bare bare (kind t (num 9)) (fun make ((x (num 9))) t x) "
                                     "(fun read ((x t)) (num 9) x))", "one", "bare")
        self.apart(CELL + ONE_PART + "(face less (hid t) (fun make ((num 9)) t)) (part q (less) (open one))", "one", "q")
        self.apart(CELL + ONE_PART + "(part q (cell (t (num 9))) (kind t (num 9)) (fun make ((x (num 9))) t x) "
                                     "(fun read ((x t)) (num 9) x))", "one", "q")
        self.apart("(face f (hid t)) (face h (hid s)) (part p (f) (kind t (num 9))) (part q (h) (kind s (num 9)))", "p", "q")
        self.apart("(face f (hid t)) (face h (told t (num 9))) (part p (f) (kind t (num 9))) (part q (h) (kind t (num 9)))",
                   "p", "q")
        self.apart("(part p bare) (part q bare (fun f () (num 1) (lit 0 1)))", "p", "q")

    def test_one_kind_of_the_other(self):
        # q shows p's hidden kind, which is none of its own.
        self.apart(CELL + ONE_PART + "(part q bare (open one))", "one", "q")
        self.apart(CELL + ONE_PART + "(maker m ((x cell)) (cell (t x.t)) (open x)) (made q m one)", "one", "q")

    def test_names_with_a_parts_word(self):
        ahead = CELL + ONE_PART
        for face, items in (("(fun f (one.t) (num 9))", "(fun f ((x one.t)) (num 9) (one.read x))"),
                            ("(fun f () one.t)", "(fun f () one.t (one.make (lit 1 9)))"),
                            ("(fun f () (pair (num 2) one.t))", "(fun f () (pair (num 2) one.t) (two (lit 1 2) "
                                                                "(one.make (lit 1 9))))"),
                            ("(hid t) (fun g (t) t) (fun f ((pair one.t t)) t)",
                             "(kind t (num 2)) (fun g ((x t)) t x) (fun f ((x (pair one.t t))) t (second x))")):
            text = ahead + f"(face f {face}) (part p (f) {items}) (part q (f) {items})"
            told = house(text)
            for p, q in (("p", "q"), ("q", "p"), ("p", "p")):
                with self.assertRaises(NotPlain, msg=face):
                    behind_one_face(told, p, q)
                with self.assertRaises(NotPlain, msg=face):
                    fails(told, p, q, [])

    def test_names_in_a_told_kind_alone(self):
        told = house(CELL + ONE_PART + "(face f (hid t) (told k (pair t one.t)) (fun g () t)) "
                                       "(part p (f) (kind t (num 2)) (kind k (pair t one.t)) (fun g () t (lit 1 2))) "
                                       "(part q (f) (kind t (num 3)) (kind k (pair t one.t)) (fun g () t (lit 2 3)))")
        self.assertEqual(behind_one_face(told, "p", "q"), (
            (("k", pair(T, ("name", "one", "t"))), ("t", T)), (("g", (), T),)))
        self.assertIsNone(fails(told, "p", "q", [("t", 1, 2)]))

    def test_no_fit_ahead_of_not_plain(self):
        # Each has a function of a kind with a part's word, but they aren't behind one face.
        self.apart(CELL + ONE_PART + "(part p bare (fun f () one.t (one.make (lit 1 9)))) "
                                     "(part q bare (fun g () one.t (one.make (lit 1 9))))", "p", "q")

    def test_refused_alike_by_fails(self):
        told = house(CELL + ONE_PART + "(part q bare)")
        self.no_fit("q", "", None, None, lambda: fails(told, "one", "q", []))

    def test_what_is_handed_in_stays(self):
        told = house(CELL + ONE_PART + SHIFTED)
        before = list(told)
        paper = [("t", 1, 2)]
        behind_one_face(told, "one", "shifted")
        fails(told, "one", "shifted", paper)
        self.assertEqual((told, paper), (before, [("t", 1, 2)]))


class TiedTest(unittest.TestCase):
    PAPER = [("t", 1, 2), ("t", (0, 1), 5), ("s", 1, 3)]

    def test_nums(self):
        self.assertIs(tied(NINE, 3, 3, []), True)
        self.assertIs(tied(NINE, 3, 4, []), False)
        self.assertIs(tied(NINE, 1, 2, self.PAPER), False)

    def test_hidden_kinds(self):
        for kind, one, other, due in ((T, 1, 2, True), (T, 2, 1, False), (T, 1, 1, False), (T, 1, 3, False),
                                      (own("s"), 1, 3, True), (own("s"), 1, 2, False), (T, (0, 1), 5, True),
                                      (T, (1, 0), 5, False), (own("u"), 1, 2, False)):
            self.assertIs(tied(kind, one, other, self.PAPER), due)

    def test_pairs(self):
        kind = pair(T, pair(NINE, own("s")))
        self.assertIs(tied(kind, (1, (4, 1)), (2, (4, 3)), self.PAPER), True)
        for one, other in (((1, (4, 1)), (2, (5, 3))), ((1, (4, 1)), (3, (4, 3))), ((1, (4, 1)), (2, (4, 2))),
                           ((2, (4, 1)), (1, (4, 3)))):
            self.assertIs(tied(kind, one, other, self.PAPER), False)


class FailsTest(unittest.TestCase):
    def test_a_paper_that_holds(self):
        told = house(CELL + ONE_PART + SHIFTED + PAIRED)
        self.assertIsNone(fails(told, "one", "shifted", [("t", n, n + 1) for n in range(9)]))
        self.assertIsNone(fails(told, "shifted", "one", [("t", n + 1, n) for n in range(9)]))
        self.assertIsNone(fails(told, "shifted", "paired", [("t", n + 1, (1, n)) for n in range(9)]))
        # More than the least tie may hold, too: what no use comes to is read alike.
        more = [("t", n, (1, n)) for n in range(9)] + [("t", n, (0, n)) for n in range(9)]
        self.assertIsNone(fails(told, "one", "paired", more))

    def test_rows_that_stand_twice_and_in_any_order(self):
        told = house(CELL + ONE_PART + SHIFTED)
        paper = [("t", n, n + 1) for n in range(9)]
        self.assertIsNone(fails(told, "one", "shifted", paper + paper[::-1] + paper))

    def test_a_paper_that_lacks_an_answer(self):
        told = house(CELL + ONE_PART + SHIFTED)
        for lacking in range(9):
            paper = [("t", n, n + 1) for n in range(9) if n != lacking]
            self.assertEqual(fails(told, "one", "shifted", paper), ("make", (lacking,), (lacking,)))
        self.assertEqual(fails(told, "one", "shifted", [])[0], "make")

    def test_a_paper_with_a_row_too_many(self):
        told = house(CELL + ONE_PART + SHIFTED)
        paper = [("t", n, n + 1) for n in range(9)]
        for row in (("t", 3, 5), ("t", 0, 2), ("t", 8, 8)):
            self.assertEqual(fails(told, "one", "shifted", paper + [row]), ("read", row[1:2], row[2:]))
        # What lies beyond what any use comes to is read as nine less.
        self.assertIsNone(fails(told, "one", "shifted", paper + [("t", 0, 0)]))

    def test_a_function_of_no_arguments(self):
        text = "(face f (hid t) (fun begin () t)) (part p (f) (kind t (num 9)) (fun begin () t (lit 3 9))) " \
               "(part q (f) (kind t (num 2)) (fun begin () t (lit 1 2)))"
        told = house(text)
        self.assertIsNone(fails(told, "p", "q", [("t", 3, 1)]))
        for paper in ([], [("t", 1, 3)], [("t", 3, 0)], [("s", 3, 1)]):
            self.assertEqual(fails(told, "p", "q", paper), ("begin", (), ()))

    def test_a_plain_function_of_no_arguments(self):
        told = house("(part p bare (fun f () (num 9) (lit 3 9))) (part q bare (fun f () (num 9) (lit 4 9))) "
                     "(part r bare (fun f () (num 9) (+ 9 (lit 1 9) (lit 2 9))))")
        self.assertEqual(fails(told, "p", "q", []), ("f", (), ()))
        self.assertIsNone(fails(told, "p", "r", []))

    def test_arguments_tied_through_a_pair(self):
        text = "(face f (hid t) (fun g ((pair t (pair (num 2) t))) (num 3))) (part p (f) (kind t (num 3)) (fun g " \
               "((x (pair t (pair (num 2) t)))) (num 3) (+ 3 (first x) (second (second x))))) (part q (f) " \
               "(kind t (pair (num 3) (num 1))) (fun g ((x (pair t (pair (num 2) t)))) (num 3) " \
               "(if (= (first (second x)) (lit 1 2)) (+ 3 (first (first x)) (first (second (second x)))) (lit 0 3))))"
        told = house(text)
        self.assertIsNone(fails(told, "p", "q", []))
        self.assertIsNone(fails(told, "p", "q", [("t", 0, (0, 0))]))
        self.assertEqual(fails(told, "p", "q", [("t", 1, (1, 0))]), ("g", ((1, (0, 1)),), (((1, 0), (0, (1, 0))),)))

    def test_answers_tied_through_a_pair(self):
        text = "(face f (hid t) (fun g () (pair (num 2) (pair t t)))) (part p (f) (kind t (num 3)) (fun g () " \
               "(pair (num 2) (pair t t)) (two (lit 1 2) (two (lit 0 3) (lit 1 3))))) (part q (f) (kind t (num 4)) " \
               "(fun g () (pair (num 2) (pair t t)) (two (lit 1 2) (two (lit 3 4) (lit 2 4)))))"
        told = house(text)
        self.assertIsNone(fails(told, "p", "q", [("t", 0, 3), ("t", 1, 2)]))
        for paper in ([("t", 0, 3)], [("t", 1, 2)], [("t", 0, 2), ("t", 1, 3)]):
            self.assertEqual(fails(told, "p", "q", paper), ("g", (), ()))

    def test_hidden_kinds_all_written_out(self):
        inner = "(face in (hid t) (fun f () t)) (part inner (in) (kind t (pair (num 2) (num 2))) " \
                "(fun f () t (two (lit 0 2) (lit 1 2))))"
        told = house(inner + "(part p (in) (kind t (pair inner.t (num 2))) (fun f () t (two (inner.f) (lit 1 2)))) "
                             "(part q (in) (kind t inner.t) (fun f () t (inner.f)))")
        self.assertIsNone(fails(told, "p", "q", [("t", ((0, 1), 1), (0, 1))]))
        self.assertEqual(fails(told, "p", "q", [("t", (0, 1), (0, 1))]), ("f", (), ()))


class TooWideTest(unittest.TestCase):
    def parts(self, face, items):
        return house(f"(face f (hid t) {face}) (part p (f) (kind t (num 50)) {items}) (part q (f) (kind t (num 50)) {items})")

    def nums(self, *sizes):
        """Two parts with a function of nums that have these numbers of values."""
        kinds = " ".join(f"(num {size})" for size in sizes)
        params = " ".join(f"({name} (num {size}))" for name, size in zip("abcd", sizes))
        return self.parts(f"(fun g ({kinds}) (num 2))", f"(fun g ({params}) (num 2) (lit 1 2))")

    def test_nums(self):
        for sizes in ((400,), (20, 20), (10, 10, 4), (400, 1), (5, 4, 4, 5)):
            self.assertIsNone(fails(self.nums(*sizes), "p", "q", []))
        for sizes in ((401,), (20, 21), (401, 1), (10 ** 18,), (10 ** 18, 10 ** 18, 10 ** 18, 10 ** 18), (3, 3, 3, 15)):
            with self.assertRaises(TooWide, msg=sizes):
                fails(self.nums(*sizes), "p", "q", [])

    def test_rows_of_a_paper(self):
        told = self.parts("(fun g (t t) (num 2))", "(fun g ((a t) (b t)) (num 2) (lit 1 2))")
        paper = [("t", number, number) for number in range(20)]
        self.assertIsNone(fails(told, "p", "q", paper))
        # Rows that stand twice are counted once, rows of other words not at all.
        self.assertIsNone(fails(told, "p", "q", paper + paper + [("s", 1, 1)]))
        with self.assertRaises(TooWide):
            fails(told, "p", "q", paper + [("t", 20, 20)])
        with self.assertRaises(TooWide):
            fails(told, "p", "q", paper + [("t", 0, 1)])

    def test_within_pairs(self):
        told = self.parts("(fun g ((pair t (pair (num 4) t)) (num 4)) (num 2))",
                          "(fun g ((a (pair t (pair (num 4) t))) (b (num 4))) (num 2) (lit 1 2))")
        self.assertIsNone(fails(told, "p", "q", [("t", number, number) for number in range(5)]))
        with self.assertRaises(TooWide):
            fails(told, "p", "q", [("t", number, number) for number in range(6)])

    def test_ahead_of_all_cases(self):
        # The first function fails at once, the second one is too wide.
        text = "(face f (hid t) (fun a () (num 2)) (fun b ((num 401)) (num 2))) (part p (f) (kind t (num 1)) (fun a () " \
               "(num 2) (lit 0 2)) (fun b ((x (num 401))) (num 2) (lit 1 2)))"
        both = text + text[text.index("(part p"):].replace("part p", "part q").replace("(lit 0 2)", "(lit 1 2)")
        with self.assertRaises(TooWide):
            fails(house(both), "p", "q", [])
        self.assertEqual(fails(house(both.replace("401", "400")), "p", "q", []), ("a", (), ()))

    def test_great_nums_beside_hidden_kinds_without_rows(self):
        most = 10 ** 18
        for kinds in (f"(num {most}) t", f"t (num {most})", f"(pair (num {most}) t)", f"(pair (pair t (num {most})) (num {most}))"):
            params = " ".join(f"({name} {each})" for name, each in zip("ab", self.split(kinds)))
            told = self.parts(f"(fun g ({kinds}) (num 2))", f"(fun g ({params}) (num 2) (lit 1 2))")
            self.assertIsNone(fails(told, "p", "q", []))
            self.assertIsNone(fails(told, "p", "q", [("s", 1, 1)]))
            with self.assertRaises(TooWide, msg=kinds):
                fails(told, "p", "q", [("t", 1, 1)])

    def split(self, kinds):
        """The kinds of a text, each as a text."""
        return [text_of([tree]) for tree in trees_of(kinds)]


if __name__ == "__main__":
    unittest.main()

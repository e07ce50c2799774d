"""The desk: texts asked and answered: [39]."""

import unittest

from samples import SameTest, sums, wide
from sealhouse.desk import answer, compared, join_text, value_text, way_text
from sealhouse.errors import Clash, NoCount, NoForm, NoKind, NoName, NotPlain, NoTree, TooBig, TooHeavy, Twice, WrongKind
from sealhouse.reading import read_expression
from sealhouse.writing import kind_text

CELL = "(face cell (hid t) (fun make ((num 9)) t) (fun read (t) (num 9)))"
ONE = "(part one (cell) (kind t (pair (num 9) (num 2))) (fun make ((x (num 9))) t (two x (lit 1 2))) " \
      "(fun read ((x t)) (num 9) (first x)))"
OTHER = "(part other (cell) (kind t (num 9)) (fun make ((x (num 9))) t (+ 9 x (lit 1 9))) " \
        "(fun read ((x t)) (num 9) (- 9 x (lit 1 9))))"
WRONG = OTHER.replace("part other", "part wrong").replace("(- 9 x (lit 1 9))", "x")
HOUSE = CELL + ONE + OTHER + WRONG
# Looked at without refusal, but linked it is too heavy, or has a kind that is too big.
HEAVY = f"(part p bare (fun f ((x (num 10))) (num 10) {sums(299)}) (fun g ((x (num 10))) (num 10) (f (f (f x)))))"
BIG = "(face hiding (hid t)) (part a (hiding) (kind t (pair (pair (num 1) (num 1)) (pair (num 1) (num 1)))))"
for ahead, word in zip("abcde", "bcdef"):
    BIG += f"(part {word} (hiding) (kind t (pair (pair {ahead}.t {ahead}.t) {ahead}.t)))"


class ValueTest(SameTest):
    def test_values(self):
        for value, due in ((0, "0"), (7, "7"), (10 ** 18 - 1, "999999999999999999"), ((1, 2), "(two 1 2)"),
                           ((0, (1, 2)), "(two 0 (two 1 2))"), (((3, 4), (5, (6, 7))), "(two (two 3 4) (two 5 (two 6 7)))")):
            self.assertEqual(value_text(value), due)


class AnswerTest(SameTest):
    def test_answers(self):
        for use, due in (("(one.read (one.make (lit 5 9)))", "5"), ("(lit 3 4)", "3"),
                         ("(two (lit 1 2) (other.read (other.make (lit 8 9))))", "(two 1 8)"),
                         ("(let x (one.make (lit 2 9)) (two (two (one.read x) (one.read x)) (wrong.read (wrong.make "
                          "(lit 8 9)))))", "(two (two 2 2) 0)"),
                         ("(if (= (one.read (one.make (lit 5 9))) (lit 5 9)) (lit 1 2) (lit 0 2))", "1")):
            self.assertEqual(answer(HOUSE, use), due)

    def test_a_house_of_no_declarations(self):
        for text in ("", " ", "\n", " \n \n"):
            self.assertEqual(answer(text, "(two (lit 1 2) (+ 9 (lit 8 9) (lit 8 9)))"), "(two 1 7)")

    def test_other_blanks_and_line_feeds(self):
        text = "\n\n" + HOUSE.replace("(", "\n ( ").replace(")", " ) \n\n")
        self.assertEqual(answer(text, "\n(  one.read\n(one.make(lit 5   9) ))\n\n"), "5")

    def test_the_house_text_first(self):
        # Whatever is wrong with the use, what is wrong with the house goes ahead.
        for text, error in (("(", NoTree), ("(part p bare))", NoTree), ("(part p)", NoForm), ("part", NoForm),
                            ("(part p bare (kind t q.t))", NoKind), ("(part p bare) (part p bare)", Twice),
                            ("(part p bare (open q))", NoName),
                            ("(part p bare (fun f () (num 2) (lit 0 3)))", WrongKind),
                            ("(part p bare (fun f () (num 2) (lit 0 2)) (fun g () (num 2) (f (f))))", NoCount),
                            (HOUSE + "(made m twice one)", NoName)):
            for use in ("(lit 0 1)", "(", "(lit", "lit", "", "(none.f)", "(one.make (lit 0 9))"):
                with self.assertRaises(error, msg=(text, use)):
                    answer(text, use)

    def test_then_the_use(self):
        for text in (HOUSE, HOUSE + HEAVY, HOUSE + BIG):
            for use, error in (("(", NoTree), ("(lit 0 1))", NoTree), ("", NoForm), ("(lit 0 1) (lit 0 1)", NoForm),
                               ("(lit 1 1)", NoForm), ("one.read", NoForm), ("x", NoName), ("(none.f)", NoName),
                               ("(one.none)", NoName), ("(read (lit 0 9))", NoName), ("(one.read)", NoCount),
                               ("(one.read (lit 0 9))", WrongKind), ("(one.read (other.make (lit 0 9)))", WrongKind),
                               ("(if (lit 0 1) (lit 0 1) (lit 0 1))", WrongKind), ("(cell.read (lit 0 9))", NoName)):
                with self.assertRaises(error, msg=use):
                    answer(text, use)

    def test_a_kind_of_too_many_words(self):
        use = "(lit 0 2)"
        for each in range(19):
            use = f"(two (lit 0 1) {use})"
        self.assertEqual(answer("", use).count("two"), 19)
        with self.assertRaises(TooBig):
            answer("", f"(two {use} (lit 0 1))")

    def test_not_plain_ahead_of_linking(self):
        for text in (HOUSE, HOUSE + HEAVY, HOUSE + BIG):
            for use in ("(one.make (lit 0 9))", "(two (lit 0 1) (two (one.make (lit 0 9)) (lit 0 1)))"):
                with self.assertRaises(NotPlain, msg=use):
                    answer(text, use)

    def test_linking_ahead_of_running(self):
        with self.assertRaises(TooHeavy):
            answer(HOUSE + HEAVY, "(lit 0 1)")
        with self.assertRaises(TooBig):
            answer(HOUSE + BIG, "(lit 0 1)")

    def test_opened_and_made(self):
        text = HOUSE + "(part user bare (open one)) (maker m ((x cell)) bare (open x) (fun f ((n (num 9))) (num 9) " \
                       "(read (make n)))) (made p m user) (made q m wrong)"
        self.assertEqual(answer(text, "(two (p.f (lit 4 9)) (q.f (lit 4 9)))"), "(two 4 5)")


class ComparedTest(SameTest):
    def test_tied(self):
        self.assertEqual(compared(HOUSE, "one", "other"), "tied 9")
        self.assertEqual(compared(HOUSE, "other", "other"), "tied 9")
        self.assertEqual(compared("(part p bare) (part q bare)", "p", "q"), "tied 0")

    def test_parted(self):
        for p, q in (("one", "wrong"), ("wrong", "one"), ("other", "wrong")):
            told = compared(HOUSE, p, q)
            self.assertTrue(told.startswith("parted "))
            use = told[len("parted "):]
            self.assertEqual(read_expression(use)[0] in ("let", "call"), True)
            self.assertNotEqual(answer(HOUSE, use), answer(HOUSE, use.replace(p + ".", q + ".")))
        self.assertEqual(compared("(part p bare (fun f () (num 2) (lit 0 2))) (part q bare (fun f () (num 2) (lit 1 2)))",
                                  "p", "q"), "parted (p.f)")

    def test_parted_by_a_use_that_nests_deeper_than_texts_that_are_read(self):
        kind = kind_text(wide(39))
        text = f"(face clock (hid t) (fun begin () t) (fun tick (t {kind}) t) (fun late (t) (num 2)))"
        for word, late in (("p", 15), ("q", 0)):
            text += f"(part {word} (clock) (kind t (num 16)) (fun begin () t (lit 1 16)) (fun tick ((x t) (y {kind})) t " \
                    f"(+ 16 x (lit 1 16))) (fun late ((x t)) (num 2) (= x (lit {late} 16))))"
        told = compared(text, "p", "q")
        self.assertTrue(told.startswith("parted "))
        self.assertEqual((told.count("p.tick"), told.count("p.late"), told.count("q.")), (14, 1, 0))
        with self.assertRaises(NoTree):
            read_expression(told[len("parted "):])

    def test_open(self):
        text = "(face f (fun g ((num {0})) (num 2))) (part p (f) (fun g ((x (num {0}))) (num 2) (lit 1 2))) (part q (f) (open p))"
        self.assertEqual(compared(text.format(64), "p", "q"), "tied 0")
        self.assertEqual(compared(text.format(65), "p", "q"), "open")

    def test_no_parts(self):
        for p, q in (("one", "none"), ("none", "one"), ("none", "none"), ("cell", "one"), ("one", "cell"), ("", "one"),
                     ("one", "one.t")):
            with self.assertRaises(NoName, msg=(p, q)):
                compared(HOUSE, p, q)
        with self.assertRaises(NoName):
            compared(HOUSE + "(maker m ((x cell)) bare)", "m", "m")
        with self.assertRaises(NoName):
            compared("", "p", "p")

    def test_the_house_text_first(self):
        for text, error in (("(", NoTree), ("(part p)", NoForm), ("(part p bare (kind t q.t))", NoKind)):
            with self.assertRaises(error):
                compared(text, "none", "none")

    def test_not_behind_one_face(self):
        text = HOUSE + "(part bare bare) (part user bare (open one)) (part again bare (open user))"
        self.no_fit("bare", "", None, None, lambda: compared(text, "one", "bare"))
        with self.assertRaises(NotPlain):
            compared(text, "user", "again")

    def test_refused_as_when_linked(self):
        for more, error in ((HEAVY, TooHeavy), (BIG, TooBig)):
            with self.assertRaises(error):
                compared(HOUSE + more, "one", "other")
            with self.assertRaises(NoName):
                compared(HOUSE + more, "one", "none")
            # NotPlain goes ahead of linking.
            with self.assertRaises(NotPlain):
                compared(HOUSE + more + "(part user bare (open one))", "user", "user")


class WayTest(SameTest):
    def setUp(self):
        self.text = CELL + ONE + "(part user bare (kind k (pair (num 2) one.t)) (kind l (pair k k)) (kind n (num 9))) " \
            "(part last bare (open user) (kind m (pair l n)) (kind kk k)) (part opener bare (open one))"

    def test_ways(self):
        for one, other, due in (
                ("one.t", "one.t", "one.t"), ("opener.t", "one.t", "opener.t = one.t"),
                ("one.t", "opener.t", "one.t = opener.t"), ("opener.t", "opener.t", "opener.t = one.t = opener.t"),
                ("user.k", "last.k", "user.k = (pair (num 2) one.t) = user.k = last.k"),
                ("last.kk", "user.k", "last.kk = last.k = user.k = (pair (num 2) one.t) = user.k"),
                ("user.n", "last.n", "user.n = (num 9) = user.n = last.n"),
                ("user.l", "user.l", "user.l = (pair user.k user.k) = (pair (pair (num 2) one.t) user.k) = (pair (pair (num 2) "
                                     "one.t) (pair (num 2) one.t)) = (pair (pair (num 2) one.t) user.k) = (pair user.k user.k)"
                                     " = user.l")):
            self.assertEqual(way_text(self.text, one, other), due)

    def test_none(self):
        for one, other in (("one.t", "user.k"), ("user.k", "user.l"), ("user.n", "one.t"), ("last.m", "last.l")):
            self.assertEqual(way_text(self.text, one, other), "none")

    def test_other_blanks(self):
        text = self.text.replace("(", "\n(").replace(" ", "  ")
        self.assertEqual(way_text(text, "opener.t", "one.t"), "opener.t = one.t")

    def test_no_such_kind(self):
        for word in ("one.s", "none.t", "cell.t", "one", "t", "", ".", "one.", ".t", "one.t.t", "one.t ", " one.t", "one .t",
                     "(one.t)", "one.make", "ONE.t", "one..t", "num", "(num 9)", "one.t one.t"):
            with self.assertRaises(NoName, msg=word):
                way_text(self.text, word, "one.t")
            with self.assertRaises(NoName, msg=word):
                way_text(self.text, "one.t", word)

    def test_the_house_text_first(self):
        for text, error in (("(", NoTree), ("(part p)", NoForm), ("(part p bare (kind t q.t))", NoKind)):
            with self.assertRaises(error):
                way_text(text, "none", "none")

    def test_nothing_is_linked(self):
        self.assertEqual(way_text(self.text + HEAVY.replace("part p", "part hh"), "opener.t", "one.t"), "opener.t = one.t")
        self.assertEqual(way_text(CELL + ONE + BIG, "f.t", "one.t"), "none")


class JoinTest(SameTest):
    def test_joins(self):
        text = CELL + "(face more (hid s) (told t (pair s s)) (fun make ((num 9)) (pair s s)) (fun zero () s)) (face empty) " \
                      "(face alias (hid z) (told t z) (told a t) (fun back (a) z)) (part p (cell) (kind t (num 1)) " \
                      "(fun make ((x (num 9))) t (lit 0 1)) (fun read ((x t)) (num 9) (lit 0 9))) (face far (told t p.t))"
        cell = "(hid t) (fun make ((num 9)) t) (fun read (t) (num 9))"
        for one, other, due in (
                ("cell", "cell", cell), ("cell", "empty", cell), ("empty", "cell", cell), ("empty", "empty", ""),
                ("cell", "more", "(hid s) (told t (pair s s)) (fun make ((num 9)) (pair s s)) (fun read ((pair s s)) (num 9)) "
                                 "(fun zero () s)"),
                ("alias", "empty", "(hid a) (told t a) (told z a) (fun back (a) a)"),
                ("cell", "alias", "(hid a) (told t a) (told z a) (fun back (a) a) (fun make ((num 9)) a) (fun read (a) (num 9))"),
                ("cell", "far", "(told t p.t) (fun make ((num 9)) p.t) (fun read (p.t) (num 9))")):
            self.assertEqual(join_text(text, one, other), due)
            self.assertEqual(join_text(text, other, one), due)

    def test_clash(self):
        text = "(face f (told t (num 2))) (face g (told t (num 3))) (face h (fun t () (num 2))) (face i (fun t ((num 1)) (num 2)))"
        for one, other in (("f", "g"), ("g", "f"), ("h", "i")):
            with self.assertRaises(Clash):
                join_text(text, one, other)
        self.assertEqual(join_text(text, "f", "h"), "(told t (num 2)) (fun t () (num 2))")

    def test_no_such_face(self):
        for word in ("none", "one", "", "(cell)", "cell ", "cell.t"):
            with self.assertRaises(NoName, msg=word):
                join_text(HOUSE, word, "cell")
            with self.assertRaises(NoName, msg=word):
                join_text(HOUSE, "cell", word)

    def test_the_house_text_first(self):
        for text, error in (("(", NoTree), ("(part p)", NoForm), ("(part p bare (kind t q.t))", NoKind)):
            with self.assertRaises(error):
                join_text(text, "none", "none")

    def test_nothing_is_linked(self):
        for more in (HEAVY, BIG):
            self.assertEqual(join_text(HOUSE + more, "cell", "cell"), "(hid t) (fun make ((num 9)) t) (fun read (t) (num 9))")


if __name__ == "__main__":
    unittest.main()

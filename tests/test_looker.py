"""The looker: houses looked at by what is seen of the declarations ahead: [25]."""

import unittest

from samples import ONE, TWO, SameTest, far, own, pair, wide
from sealhouse.errors import NoCount, NoFit, NoKind, NoName, Refused, TooBig, Twice, WrongKind
from sealhouse.looker import Seen, kind_of, look, wrong_at
from sealhouse.makers import Maker
from sealhouse.reading import read_expression, read_house
from sealhouse.writing import kind_text

T = own("t")
TEN = ("num", 10)
CELL = "(face cell (hid t) (fun make ((num 10)) t) (fun read (t) (num 10)))"
ONE_PART = "(part one (cell) (kind t (num 10)) (kind more (num 10)) (fun make ((x (num 10))) t x) " \
           "(fun help ((x t)) (num 10) (+ 10 x (lit 1 10))) (fun read ((x t)) (num 10) (help x)) " \
           "(fun last () (num 10) (lit 9 10)))"
BARE = "(part open bare (kind k (pair (num 2) one.t)) (fun get ((x k)) one.t (second x)))"
MAKER = "(maker twice ((x cell) (y cell)) (cell) (kind t (pair x.t y.t)) " \
        "(fun make ((n (num 10))) t (two (x.make n) (y.make n))) " \
        "(fun read ((v t)) (num 10) (+ 10 (x.read (first v)) (y.read (second v)))))"
MADE = "(made both twice one one)"
AHEAD = CELL + ONE_PART + BARE + MAKER + MADE


def ahead(text=AHEAD):
    return look(read_house(text))


def value_of(words_told):
    """An expression, written, of the kind wide(words_told)."""
    count = words_told // 2
    return "(two (lit 0 1) " * count + "(lit 0 1)" + ")" * count


def words(seen):
    return (list(seen.faces), list(seen.parts), list(seen.makers))


class LookTest(SameTest):
    def refused(self, error, texts):
        """Whether each declaration is refused behind those of AHEAD, and notes nothing."""
        for text in texts:
            seen = ahead()
            with self.assertRaises(error, msg=text):
                seen.take(read_house(text)[0])
            self.assertEqual(words(seen), words(ahead()), text)
            self.assertEqual(wrong_at(read_house(AHEAD + text)), 5, text)
            with self.assertRaises(error, msg=text):
                look(read_house(AHEAD + text))

    def good(self, text):
        """What is seen where AHEAD and then these declarations are let by."""
        self.assertIsNone(wrong_at(read_house(AHEAD + text)), text)
        return ahead(AHEAD + text)

    def test_nothing(self):
        seen = Seen()
        self.assertEqual((seen.faces, seen.parts, seen.makers), ({}, {}, {}))
        self.assertEqual(words(look([])), ([], [], []))
        self.assertIsNone(wrong_at([]))

    def test_what_is_seen(self):
        seen = ahead()
        self.assertEqual(words(seen), (["cell"], ["one", "open", "both"], ["twice"]))
        cell = {"make": ((TEN,), T), "read": ((T,), TEN)}
        self.same(seen.faces["cell"], {"t": T}, cell)
        t = far("one", "t")
        self.same(seen.parts["one"], {"t": t}, {"make": ((TEN,), t), "read": ((t,), TEN)})
        self.same(seen.parts["open"], {"k": pair(TWO, t)}, {"get": ((pair(TWO, t),), t)})
        t = far("both", "t")
        self.same(seen.parts["both"], {"t": t}, {"make": ((TEN,), t), "read": ((t,), TEN)})
        maker = seen.makers["twice"]
        self.assertIsInstance(maker, Maker)
        self.assertEqual([word for word, want in maker.formals], ["x", "y"])
        self.same(maker.formals[1][1], {"t": T}, cell)
        self.same(maker.result, {"t": T}, cell)

    def test_take_gives_nothing_and_notes_one_by_one(self):
        seen = Seen()
        for declaration in read_house(AHEAD):
            self.assertIsNone(seen.take(declaration))
        self.assertEqual(words(seen), words(ahead()))

    def test_each_look_is_its_own(self):
        house = read_house(AHEAD)
        seen = look(house)
        seen.parts["one"].kinds.clear()
        seen.faces.clear()
        self.assertEqual(words(look(house)), words(ahead()))
        self.assertEqual(list(look(house).parts["one"].kinds), ["t"])
        self.assertEqual(house, read_house(AHEAD))
        house.clear()
        self.assertEqual(list(seen.parts), ["one", "open", "both"])

    def test_words_told_twice(self):
        for word in ("cell", "one", "open", "twice", "both"):
            self.refused(Twice, [f"(face {word})", f"(part {word} bare)", f"(maker {word} ((z cell)) bare)",
                                 f"(made {word} twice one one)"])

    def test_words_of_formals(self):
        for word in ("cell", "one", "open", "twice", "both", "m"):
            self.refused(Twice, [f"(maker m (({word} cell)) bare)", f"(maker m ((x cell) ({word} cell)) bare)",
                                 f"(maker m (({word} cell) (x cell)) bare)"])
        self.refused(Twice, ["(maker m ((z cell) (z cell)) bare)", "(maker m ((z cell) (u cell) (z cell)) bare)"])
        self.good("(maker m ((x cell) (y cell)) bare)")

    def test_a_later_declaration_may_have_the_word_of_a_formal(self):
        seen = self.good("(part x (cell) (open one)) (face y) (made z twice x one)")
        self.assertEqual(list(seen.parts), ["one", "open", "both", "x", "z"])
        for text in ("(face x)", "(part x bare)", "(maker x ((z cell)) bare)", "(made x twice one one)"):
            self.good(text)
        self.assertEqual(wrong_at(read_house(AHEAD + "(maker m ((z cell)) bare) (part z bare) "
                                                     "(maker n ((z cell)) bare)")), 7)

    def test_nothing_of_a_part_behind_a_seal(self):
        self.refused(NoKind, ["(face f (told a one.more))", "(part p bare (kind a one.more))",
                              "(maker m ((z cell)) bare (kind a one.more))", "(maker m ((z cell)) bare (kind a z.more))",
                              "(part p bare (fun f ((x one.more)) (num 10) x))", "(part p (cell (t one.more)))"])
        self.refused(NoName, ["(part p bare (fun f () (num 10) (one.last)))", "(part p bare (open one) (fun f () (num 10) "
                              "(last)))", "(maker m ((z cell)) bare (fun f () (num 10) (z.last)))",
                              "(part p bare (fun f ((x one.t)) (num 10) (one.help x)))"])
        self.refused(WrongKind, ["(part p bare (fun f ((x one.t)) (num 10) x))",
                                 "(part p bare (fun f () (num 10) (one.read (lit 1 10))))",
                                 "(part p bare (fun f ((x both.t)) one.t (first x)))",
                                 "(part p bare (fun f ((x both.t)) (num 10) (one.read x)))",
                                 "(maker m ((z cell)) bare (fun f ((x one.t)) (num 10) (z.read x)))"])
        self.good("(part p bare (fun f ((x one.t)) (num 10) (one.read x)) (fun g ((x open.k)) (num 10) (f (second x))))")

    def test_two_made_parts_hide_kinds_of_their_own(self):
        self.good("(made other twice one one) (part p bare (fun f ((x other.t)) (num 10) (other.read x)))")
        self.assertEqual(wrong_at(read_house(AHEAD + "(made other twice one one) "
                                                     "(part p bare (fun f ((x other.t)) (num 10) (both.read x)))")), 6)

    def test_those_ahead_alone(self):
        behind = "(part behind (cell) (open one)) "
        self.good(behind)
        self.refused(NoKind, ["(face f (told a behind.t)) " + behind, "(part p bare (kind a behind.t)) " + behind,
                              "(part p bare (kind a p.b) (kind b (num 1)))", "(part p bare (kind b (num 1)) (kind a p.b))",
                              "(maker m ((z cell (t behind.t))) bare) " + behind,
                              "(part p (cell (t behind.t)) (open one))" + behind])
        self.refused(NoName, ["(part p bare (open behind)) " + behind, "(part p bare (open p))",
                              "(part p bare (fun f () (num 10) (behind.read (behind.make (lit 0 10))))) " + behind,
                              "(part p (later)) (face later)", "(maker m ((z later)) bare) (face later)",
                              "(made p twice one behind) " + behind, "(made p twice one p)",
                              "(made p later one) (maker later ((z cell)) bare)",
                              "(part p bare (fun f () (num 1) (lit 0 1)) (fun g () (num 1) (p.f)))"])

    def test_faces(self):
        seen = self.good("(face f (told a one.t) (hid b) (fun g (a) (pair open.k b)))")
        self.same(seen.faces["f"], {"a": far("one", "t"), "b": own("b")},
                  {"g": ((far("one", "t"),), pair(pair(TWO, far("one", "t")), own("b")))})
        self.refused(Twice, ["(face f (hid a) (told a (num 1)))"])
        self.refused(NoKind, ["(face f (told a b))", "(face f (told a cell.t))", "(face f (told a twice.t))"])
        self.refused(TooBig, [f"(face f (told a (pair open.k {kind_text(wide(37))})))"])

    def test_parts(self):
        seen = self.good("(part p (cell (t one.t)) (open one))")
        self.same(seen.parts["p"], {"t": far("one", "t")}, ahead().parts["one"].funs)
        seen = self.good("(part p (cell) (open one))")
        self.assertEqual(seen.parts["p"].kinds, {"t": far("p", "t")})
        self.refused(NoName, ["(part p (none))", "(part p (one))", "(part p (twice))", "(part p bare (open none))",
                              "(part p bare (open cell))", "(part p bare (open twice))",
                              "(part p bare (fun f () (num 1) x))", "(part p bare (fun f () (num 1) (f)))"])
        self.refused(Twice, ["(part p bare (kind t (num 1)) (open one))", "(part p bare (kind a (num 1)) (kind a (num 1)))",
                             "(part p bare (fun f ((x (num 1)) (x (num 1))) (num 1) x))"])
        self.refused(NoKind, ["(part p (cell (u (num 1))) (open one))", "(part p (cell (t t)) (open one))"])
        self.refused(NoFit, ["(part p (cell))", "(part p (cell (t (num 10))) (open one))",
                             "(part p (cell) (kind t (num 1)))"])
        self.refused(WrongKind, ["(part p bare (fun f () (num 1) (lit 0 2)))"])
        self.refused(NoCount, ["(part p bare (fun f () one.t (one.make)))"])
        self.refused(TooBig, [f"(part p bare (kind a (pair open.k {kind_text(wide(37))})))"])

    def test_functions_behind_a_seal_are_looked_at(self):
        self.refused(WrongKind, ["(part p (cell) (open one) (fun f () (num 1) (lit 0 2)))"])
        self.refused(NoName, ["(part p (cell) (open one) (fun f () (num 1) y))"])

    def test_the_word_of_a_part_that_does_not_fit(self):
        for text, word in (("(part p (cell))", "p"), ("(maker m ((z cell)) (cell))", "m"),
                           ("(made q twice one open)", "q")):
            with self.assertRaises(NoFit) as caught:
                look(read_house(AHEAD + text))
            self.assertEqual((caught.exception.part, caught.exception.name, caught.exception.found), (word, "t", None))

    def test_makers(self):
        seen = self.good("(maker m ((z cell) (u cell (t z.t))) (cell (t (pair z.t one.t))) "
                         "(kind t (pair z.t one.t)) (fun make ((n (num 10))) t (two (u.make n) (one.make n))) "
                         "(fun read ((v t)) (num 10) (z.read (u.make (u.read (first v))))))")
        t = pair(far("z", "t"), far("one", "t"))
        self.same(seen.makers["m"].result, {"t": t}, {"make": ((TEN,), t), "read": ((t,), TEN)})
        self.good("(maker m ((z cell)) bare (open z) (fun f ((x t)) (num 10) (read x)) (fun g () t (make (lit 1 10))))")
        self.refused(NoName, ["(maker m ((z none)) bare)", "(maker m ((z cell)) (none))", "(maker m ((z cell)) bare "
                              "(open x))", "(maker m ((z cell)) bare (fun f () (num 1) (x.make)))",
                              "(maker m ((z cell)) bare (fun f () (num 1) (m.make)))",
                              "(maker m ((z cell)) bare (fun f () (num 1) (make)))"])
        self.refused(NoKind, ["(maker m ((z cell (t u.t)) (u cell)) bare)", "(maker m ((z cell)) bare (kind a x.t))"])
        self.refused(NoFit, ["(maker m ((z cell)) (cell))", "(maker m ((z cell)) (cell (t (num 10))) (open z))"])
        self.refused(WrongKind, ["(maker m ((z cell)) bare (fun f () z.t (lit 1 10)))",
                                 "(maker m ((z cell) (u cell)) bare (fun f ((x z.t)) u.t x))",
                                 "(maker m ((z cell)) bare (fun f ((x z.t)) (num 10) (one.read x)))"])
        self.refused(NoCount, ["(maker m ((z cell)) bare (fun f () z.t (z.make)))"])
        self.refused(Twice, ["(maker m ((z cell)) bare (fun f ((x z.t) (x z.t)) z.t x))",
                             "(maker m ((z cell) (u cell)) bare (open z) (open u))"])

    def test_made_parts(self):
        self.good("(made p twice both one) (made q twice p p)")
        self.refused(NoName, ["(made p none one one)", "(made p one one one)", "(made p cell one one)",
                              "(made p twice one none)", "(made p twice none one)", "(made p twice one cell)",
                              "(made p twice one twice)", "(made p x one one)", "(made p twice x y)"])
        self.refused(NoCount, ["(made p twice one)", "(made p twice one one one)", "(made p twice open)",
                               "(made p twice one one one one one)"])
        self.refused(NoFit, ["(made p twice one open)", "(made p twice open one)"])

    def test_made_parts_that_are_too_big(self):
        def told(words_told):
            t = kind_text(wide(words_told))
            return AHEAD + "(face f (hid t)) (maker m ((v f)) bare (kind a (pair v.t v.t))) " \
                f"(maker n ((v f) (w f (t (pair v.t v.t)))) bare) (part q bare (kind t {t}))"
        for made, error in (("(made p m q)", None), ("(made p n q q)", NoFit)):
            for words_told, due in ((19, error), (21, TooBig)):
                house = read_house(told(words_told) + made)
                self.assertEqual(wrong_at(house), None if due is None else 9)
                if due is not None:
                    with self.assertRaises(due):
                        look(house)

    def test_the_first_wrong_declaration(self):
        good = read_house(AHEAD)
        wrong = read_house("(part wrong bare (open none))")[0]
        for place in range(len(good) + 1):
            house = good[:place] + [wrong] + good[place:] + [wrong]
            self.assertEqual(wrong_at(house), place)
            with self.assertRaises(NoName):
                look(house)
        lacking = [wrong_at(good[:place] + good[place + 1:]) for place in range(len(good))]
        self.assertEqual(lacking, [0, 1, None, 3, None])

    def test_take_goes_on_behind_a_refusal(self):
        seen = ahead()
        with self.assertRaises(Refused):
            seen.take(read_house("(part p bare (fun f () (num 1) (lit 0 2)))")[0])
        seen.take(read_house("(part p bare (fun f () (num 2) (lit 0 2)))")[0])
        self.assertEqual(seen.parts["p"].funs, {"f": ((), TWO)})


class KindOfTest(unittest.TestCase):
    def kind(self, text):
        return kind_of(ahead(), read_expression(text))

    def test_kinds_of_uses(self):
        for text, due in (
            ("(lit 0 1)", ONE), ("(one.make (lit 3 10))", far("one", "t")),
            ("(one.read (one.make (lit 3 10)))", TEN), ("(both.make (lit 3 10))", far("both", "t")),
            ("(let x (one.make (lit 1 10)) (open.get (two (lit 0 2) x)))", far("one", "t")),
            ("(two (lit 0 2) (one.make (lit 1 10)))", pair(TWO, far("one", "t"))),
        ):
            self.assertEqual(self.kind(text), due, text)

    def test_no_variables_but_by_let(self):
        for text in ("x", "(let x (lit 0 1) y)", "(one.make x)", "t", "one"):
            with self.assertRaises(NoName, msg=text):
                self.kind(text)

    def test_calls_by_far_names_of_what_is_seen_alone(self):
        for text in ("(make (lit 1 10))", "(one.last)", "(one.help (one.make (lit 1 10)))", "(none.f)", "(cell.make "
                     "(lit 1 10))", "(twice.make (lit 1 10))", "(x.make (lit 1 10))", "(one.none)", "(one)"):
            with self.assertRaises(NoName, msg=text):
                self.kind(text)

    def test_other_refusals(self):
        for text, error in (("(one.read (lit 1 10))", WrongKind), ("(one.make)", NoCount),
                            ("(both.read (one.make (lit 1 10)))", WrongKind)):
            with self.assertRaises(error, msg=text):
                self.kind(text)

    def test_the_bound_of_a_pair(self):
        for words_told, does in ((37, True), (39, False)):
            great = kind_text(wide(words_told))
            seen = look(read_house(f"(part p bare (fun f () {great} {value_of(words_told)}))"))
            use = read_expression("(two (lit 0 1) (p.f))")
            if does:
                self.assertEqual(kind_of(seen, use), pair(ONE, wide(words_told)))
            else:
                with self.assertRaises(TooBig):
                    kind_of(seen, use)

    def test_what_is_seen_stays(self):
        seen = ahead()
        kind_of(seen, read_expression("(let x (one.make (lit 1 10)) x)"))
        self.assertEqual(words(seen), words(ahead()))


if __name__ == "__main__":
    unittest.main()

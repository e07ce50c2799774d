"""The linker: uses and orders, the linked program: [27], [28], and [30] for linked programs."""

import itertools
import unittest

from samples import ONE, TWO, pair, sums, wide
from sealhouse.errors import BadOrder, TooBig, TooHeavy
from sealhouse.kinds import names_in
from sealhouse.linker import link, uses
from sealhouse.looker import wrong_at
from sealhouse.plain import plain_look, weights
from sealhouse.reading import read_expression, read_house
from sealhouse.writing import kind_text

TEN = ("num", 10)
CELL = "(face cell (hid t) (fun make ((num 10)) t) (fun read (t) (num 10)))"
ONE_PART = "(part one (cell) (fun help ((x (num 10))) (num 10) (+ 10 x (lit 1 10))) (kind t (pair (num 10) (num 2))) " \
           "(fun read ((x t)) (num 10) (help (first x))) (fun make ((x (num 10))) t (two (help x) (lit 0 2))))"
OPENER = "(part opener bare (fun go ((x one.t)) (num 10) (one.read x)) (open one) (kind k (pair t t)) " \
         "(fun both ((x k)) (num 10) (+ 10 (read (first x)) (go (second x)))))"
MAKER = "(maker twice ((x cell) (y cell)) (cell) (kind t (pair x.t y.t)) " \
        "(fun make ((n (num 10))) t (two (x.make n) (y.make n))) " \
        "(fun read ((v t)) (num 10) (let n (x.read (first v)) (+ 10 n (y.read (second v))))))"
OPENING_MAKER = "(maker shown ((x cell)) bare (open x) (fun last ((y t)) (num 10) (read y)))"


def house(text):
    """A house that is let by."""
    told = read_house(text)
    assert wrong_at(told) is None, text
    return told


def function(name, params, kind, text):
    return (tuple(name.split(".")), tuple(params.items()), kind, read_expression(text))


class UsesTest(unittest.TestCase):
    def setUp(self):
        self.ahead = CELL + ONE_PART + ONE_PART.replace("part one", "part other") \
            + "(part empty bare) (part nums bare (kind k (num 10)) (fun f () (num 2) (lit 1 2)) (fun g ((x k)) k x))"

    def part_uses(self, items, due):
        self.assertEqual(uses(house(self.ahead + f"(part p bare {items})"), "p"), due, items)

    def test_what_items_name(self):
        for items, due in (
            ("", []), ("(kind a (num 1)) (kind b a)", []), ("(open one)", ["one"]), ("(open empty)", ["empty"]),
            ("(kind a one.t)", ["one"]), ("(kind a (pair (num 1) (pair other.t one.t)))", ["one", "other"]),
            ("(fun f ((x one.t)) (num 1) (lit 0 1))", ["one"]),
            ("(fun f ((x (num 1)) (y (pair (num 2) other.t))) (num 1) (lit 0 1))", ["other"]),
            ("(fun f ((x (num 10))) nums.k x)", ["nums"]),
            ("(fun f () (num 10) (nums.g (lit 1 10)))", ["nums"]),
            ("(open other) (fun f ((x t)) (num 10) (read x))", ["other"]),
            ("(fun one () (num 1) (lit 0 1)) (kind other (num 1)) (fun f ((empty (num 1))) (num 1) (one))", []),
            ("(open one) (kind a other.t) (fun f ((x nums.k)) (num 2) (nums.f))", ["nums", "one", "other"]),
        ):
            self.part_uses(items, due)

    def test_calls_at_each_place_of_each_form(self):
        call = "(nums.g (lit 1 10))"
        for text, kind in (
            ("(+ 10 {} n)", "(num 10)"), ("(- 10 n {})", "(num 10)"), ("(= {} n)", "(num 2)"), ("(< n {})", "(num 2)"),
            ("(as 10 {})", "(num 10)"), ("(if (= {} n) n n)", "(num 10)"), ("(if (nums.f) n n)", "(num 10)"),
            ("(if (= n n) {} n)", "(num 10)"), ("(if (= n n) n {})", "(num 10)"), ("(let x {} n)", "(num 10)"),
            ("(let x n {})", "(num 10)"), ("(first (two {} n))", "(num 10)"), ("(second (two n {}))", "(num 10)"),
            ("(own {} n)", "(num 10)"), ("(own n {})", "(num 10)"), ("(nums.g (as 10 n))", "(num 10)"),
            ("(own n (own {} n))", "(num 10)"),
        ):
            own = "(fun own ((a (num 10)) (b (num 10))) (num 10) a)"
            self.part_uses(f"{own} (fun f ((n (num 10))) {kind} {text.replace('{}', call)})", ["nums"])

    def test_what_a_seal_names_is_not_counted(self):
        text = self.ahead + "(face f (told a one.t) (hid b)) (part q bare (open one)) " \
            "(part r bare (kind t other.t)) " \
            "(part p (f (b (pair (num 1) other.t))) (kind a q.t) (kind b (pair (num 1) r.t)))"
        told = house(text)
        self.assertEqual(uses(told, "p"), ["q", "r"])

    def test_made_parts(self):
        maker = "(maker m ((x cell) (y cell (t other.t))) (cell (t (pair x.t one.t))) (kind t (pair x.t one.t)) " \
                "(fun make ((n (num 10))) t (two (x.make (nums.g n)) (one.make n))) " \
                "(fun read ((v t)) (num 10) (y.read (y.make (lit 1 10)))))"
        opener = "(maker o ((x cell)) bare (open x) (open empty))"
        told = house(self.ahead + maker + opener + "(part y (cell) (open one)) (made p m one other) (made q m y other)"
                                                   "(made x o p) (made z o x)")
        for word, due in (("p", ["nums", "one", "other"]), ("q", ["nums", "one", "other", "y"]), ("y", ["one"]),
                          ("x", ["empty", "p"]), ("z", ["empty", "x"])):
            self.assertEqual(uses(told, word), due)

    def test_what_is_handed_in_stays(self):
        told = house(self.ahead + "(part p bare (open one))")
        before = list(told)
        uses(told, "p").clear()
        self.assertEqual((uses(told, "p"), told), (["one"], before))


class OrderTest(unittest.TestCase):
    def setUp(self):
        self.house = house(CELL + ONE_PART + OPENER + "(part free bare (fun f () (num 2) (lit 1 2)))" + MAKER
                           + "(made p twice one one)")

    def words(self, program):
        return [word for word, group in itertools.groupby(program, lambda row: row[0][0])]

    def test_the_own_order(self):
        program = link(self.house)
        self.assertEqual(self.words(program), ["one", "opener", "free", "p"])
        self.assertEqual(link(self.house, None), program)
        self.assertEqual(link(self.house, ["one", "opener", "free", "p"]), program)
        self.assertEqual(link([]), [])
        self.assertEqual(link([], []), [])
        self.assertEqual(link(house(CELL + MAKER)), [])

    def test_other_good_orders(self):
        by_word = {}
        for row in link(self.house):
            by_word.setdefault(row[0][0], []).append(row)
        good = 0
        for order in itertools.permutations(["one", "opener", "free", "p"]):
            if order.index("one") < min(order.index("opener"), order.index("p")):
                program = link(self.house, list(order))
                self.assertEqual(program, [row for word in order for row in by_word[word]])
                self.assertIsInstance(plain_look(program), dict)
                good += 1
            else:
                with self.assertRaises(BadOrder, msg=order):
                    link(self.house, list(order))
        self.assertEqual(good, 8)

    def test_orders_that_are_none(self):
        for order in ([], ["one"], ["one", "opener", "free"], ["one", "opener", "p"], ["opener", "free", "p"],
                      ["one", "opener", "free", "p", "p"], ["one", "one", "opener", "free", "p"],
                      ["one", "opener", "free", "free"], ["one", "opener", "free", "p", "none"],
                      ["cell", "one", "opener", "free", "p"], ["one", "opener", "free", "twice", "p"],
                      ["one", "opener", "free", "x"], ["p", "free", "opener", "one"]):
            with self.assertRaises(BadOrder, msg=order):
                link(self.house, order)
        with self.assertRaises(BadOrder):
            link([], ["one"])

    def test_what_a_seal_names_may_stand_behind(self):
        # The seal names more than the items do: kinds that the items have by the parts that they use.
        text = "(part a bare (kind k (num 3))) (face f (told s a.k)) (part b (f) (kind s (num 3)) " \
               "(fun g () s (lit 1 3))) (face h (told s b.s)) (part c (h) (kind s a.k))"
        told = house(text)
        self.assertEqual([uses(told, word) for word in "abc"], [[], [], ["a"]])
        for order in (["b", "a", "c"], ["a", "c", "b"], ["a", "b", "c"]):
            self.assertEqual(link(told, order), [function("b.g", {}, ("num", 3), "(lit 1 3)")])

    def test_what_is_handed_in_stays(self):
        order = ["one", "free", "opener", "p"]
        before = list(self.house)
        program = link(self.house, order)
        program.clear()
        self.assertEqual((order, self.house), (["one", "free", "opener", "p"], before))
        self.assertEqual(len(link(self.house, order)), 10)


class LinkTest(unittest.TestCase):
    T = pair(TEN, TWO)

    def one(self, word):
        """What is linked of ONE_PART under a word."""
        return [
            function(f"{word}.help", {"x": TEN}, TEN, "(+ 10 x (lit 1 10))"),
            function(f"{word}.read", {"x": self.T}, TEN, f"({word}.help (first x))"),
            function(f"{word}.make", {"x": TEN}, self.T, f"(two ({word}.help x) (lit 0 2))"),
        ]

    def test_a_sealed_part(self):
        self.assertEqual(link(house(CELL + ONE_PART)), self.one("one"))

    def test_an_opening_part(self):
        k = pair(self.T, self.T)
        self.assertEqual(link(house(CELL + ONE_PART + OPENER)), self.one("one") + [
            function("opener.go", {"x": self.T}, TEN, "(one.read x)"),
            function("opener.make", {"a": TEN}, self.T, "(one.make a)"),
            function("opener.read", {"a": self.T}, TEN, "(one.read a)"),
            function("opener.both", {"x": k}, TEN, "(+ 10 (opener.read (first x)) (opener.go (second x)))"),
        ])

    def test_params_of_opened_functions(self):
        told = house("(part p bare (fun none () (num 1) (lit 0 1)) (fun three ((d (num 1)) (c (num 2)) (z (num 10))) "
                     "(num 2) c) (fun four ((w (num 1)) (x (num 2)) (y (num 10)) (z (num 1))) (num 10) y)) "
                     "(part q bare (open p))")
        self.assertEqual(link(told)[3:], [
            function("q.none", {}, ONE, "(p.none)"),
            function("q.three", {"a": ONE, "b": TWO, "c": TEN}, TWO, "(p.three a b c)"),
            function("q.four", {"a": ONE, "b": TWO, "c": TEN, "d": ONE}, TEN, "(p.four a b c d)"),
        ])

    def test_a_sealed_part_that_opens(self):
        told = house("(face f (hid k) (fun last () k)) (part p bare (kind k (num 10)) (fun begin () k (lit 1 10)) "
                     "(fun last () k (begin))) (part q (f) (open p)) (part r bare (open q) (fun begin () k (last)))")
        self.assertEqual(link(told), [
            function("p.begin", {}, TEN, "(lit 1 10)"), function("p.last", {}, TEN, "(p.begin)"),
            function("q.begin", {}, TEN, "(p.begin)"), function("q.last", {}, TEN, "(p.last)"),
            function("r.last", {}, TEN, "(q.last)"), function("r.begin", {}, TEN, "(r.last)"),
        ])

    def test_hidden_kinds_within_hidden_kinds(self):
        told = house("(face f (hid t)) (part p (f) (kind t (num 10))) (part q (f) (kind t (pair p.t p.t))) "
                     "(part r (f (t (pair q.t p.t))) (kind t (pair q.t p.t))) "
                     "(part s bare (fun g ((x r.t) (y q.t)) (pair p.t q.t) (two (second x) y)))")
        q = pair(TEN, TEN)
        self.assertEqual(link(told), [function("s.g", {"x": pair(q, TEN), "y": q}, pair(TEN, q), "(two (second x) y)")])

    def test_made_parts(self):
        told = house(CELL + ONE_PART + MAKER + "(made p twice one one) (made x twice p one)")
        p = pair(self.T, self.T)
        self.assertEqual(link(told), self.one("one") + [
            function("p.make", {"n": TEN}, p, "(two (one.make n) (one.make n))"),
            function("p.read", {"v": p}, TEN, "(let n (one.read (first v)) (+ 10 n (one.read (second v))))"),
            function("x.make", {"n": TEN}, pair(p, self.T), "(two (p.make n) (one.make n))"),
            function("x.read", {"v": pair(p, self.T)}, TEN, "(let n (p.read (first v)) (+ 10 n (one.read (second v))))"),
        ])

    def test_formals_given_crosswise(self):
        ahead = CELL + MAKER + ONE_PART.replace("part one", "part y") + ONE_PART.replace("part one", "part x")
        p = pair(self.T, self.T)
        self.assertEqual(link(house(ahead + "(made p twice y x)"))[6:], [
            function("p.make", {"n": TEN}, p, "(two (y.make n) (x.make n))"),
            function("p.read", {"v": p}, TEN, "(let n (y.read (first v)) (+ 10 n (x.read (second v))))"),
        ])

    def test_a_made_part_called_like_a_formal(self):
        told = house(CELL + ONE_PART + OPENING_MAKER + "(made x shown one) (made y shown x)")
        self.assertEqual(link(told)[3:], [
            function("x.make", {"a": TEN}, self.T, "(one.make a)"),
            function("x.read", {"a": self.T}, TEN, "(one.read a)"),
            function("x.last", {"y": self.T}, TEN, "(x.read y)"),
            function("y.make", {"a": TEN}, self.T, "(x.make a)"),
            function("y.read", {"a": self.T}, TEN, "(x.read a)"),
            function("y.last", {"y": self.T}, TEN, "(y.read y)"),
        ])

    def test_an_opened_formal_brings_what_it_wants_in_its_order(self):
        more = "(part more bare (kind last (num 2)) (fun read ((x (num 2))) (num 10) (as 10 x)) " \
               "(fun last () (num 1) (lit 0 1)) (kind t (num 2)) (fun make ((x (num 10))) (num 2) (as 2 x)))"
        told = house(CELL + more + OPENING_MAKER + "(made p shown more)")
        self.assertEqual(link(told)[3:], [
            function("p.make", {"a": TEN}, TWO, "(more.make a)"),
            function("p.read", {"a": TWO}, TEN, "(more.read a)"),
            function("p.last", {"y": TWO}, TEN, "(p.read y)"),
        ])

    def test_makers_that_name_parts_ahead(self):
        told = house(CELL + ONE_PART + "(maker m ((x cell)) bare (kind t (pair one.t x.t)) "
                                       "(fun f ((v t)) (num 10) (one.read (first v))))" + ONE_PART.replace("part one", "part x") + "(made p m x)")
        self.assertEqual(link(told)[6:], [function("p.f", {"v": pair(self.T, self.T)}, TEN, "(one.read (first v))")])

    def test_a_variable_is_none_to_be_exchanged(self):
        told = house(CELL + ONE_PART + "(maker m ((x cell)) bare (fun f ((x (num 10))) x.t (let x (x.make x) x))) "
                                       "(made p m one)")
        self.assertEqual(link(told)[3:], [function("p.f", {"x": TEN}, self.T, "(let x (one.make x) x)")])

    def test_no_names_are_left_and_the_plain_looker_lets_it_by(self):
        told = house(CELL + ONE_PART + OPENER + MAKER + OPENING_MAKER
                     + "(made p twice one one) (made q shown p) (made r twice q one)")
        program = link(told)
        for kinds, kind in plain_look(program).values():
            for each in kinds + (kind,):
                self.assertEqual(names_in(each), [])

    def test_kinds_that_are_too_big(self):
        ahead = f"(face f (hid t)) (part a (f) (kind t {kind_text(wide(39))})) " \
                "(part b (f) (kind t (pair a.t (pair a.t (pair a.t (pair a.t a.t))))))"
        self.assertEqual(link(house(ahead)), [])
        for item in ("(kind k {})", "(fun f ((x (num 1)) (y {})) (num 1) x)", "(fun f ((x {})) (num 1) (lit 0 1))",
                     "(fun f ((x {})) {} x)"):
            for seal in ("bare", "(none)"):
                text = ahead + f"(face none) (part p {seal} {item})"
                self.assertIsInstance(link(house(text.replace("{}", "b.t"))), list)
                with self.assertRaises(TooBig, msg=item):
                    link(house(text.replace("{}", "(pair (num 1) b.t)")))

    def test_an_answer_that_is_too_big(self):
        ahead = f"(face f (hid t) (fun g () t)) (part a (f) (kind t {kind_text(wide(39))}) (fun g () t {great(39)})) " \
                "(part b (f) (kind t (pair a.t (pair a.t (pair a.t (pair a.t a.t))))) (fun g () t " \
                "(two (a.g) (two (a.g) (two (a.g) (two (a.g) (a.g)))))))"
        told = house(ahead + "(part p bare (fun g () b.t (b.g)))")
        self.assertEqual(len(link(told)), 3)
        with self.assertRaises(TooBig):
            link(house(ahead + "(part p bare (fun g () (pair (num 1) b.t) (two (lit 0 1) (b.g))))"))

    def test_a_made_part_that_is_too_big(self):
        ahead = f"(face f (hid t)) (part a (f) (kind t {kind_text(wide(39))})) " \
                "(maker m ((x f)) (f) (kind t (pair x.t (pair x.t (pair x.t (pair x.t x.t)))))) (made p m a)"
        self.assertEqual(link(house(ahead)), [])
        with self.assertRaises(TooBig):
            link(house(ahead + "(made q m p)"))

    def test_linked_programs_that_are_too_heavy(self):
        ahead = f"(part p bare (fun f ((x (num 10))) (num 10) {sums(255)}) " \
                "(fun g ((x (num 10))) (num 10) (f (f x))))"
        told = house(ahead + f"(part q bare (fun h ((x (num 10))) (num 10) (+ 10 (p.g x) (as 10 {sums(83)}))))")
        self.assertEqual(weights(link(told))[("q", "h")][0], 600)
        with self.assertRaises(TooHeavy):
            link(house(ahead + f"(part q bare (fun h ((x (num 10))) (num 10) (+ 10 (p.g x) (as 10 (as 10 {sums(83)})))))"))

    def test_linked_programs_that_are_too_deep(self):
        chain = "(as 10 " * 18 + "x" + ")" * 18
        ahead = f"(part p bare (fun f ((x (num 10))) (num 10) {chain})) " \
                f"(part q bare (open p) (fun g ((x (num 10))) (num 10) {chain.replace('x', '(f x)')}))"
        told = house(ahead + "(part r bare (open q))")
        self.assertEqual(weights(link(told))[("r", "g")], (43, 40))
        with self.assertRaises(TooHeavy):
            link(house(ahead + "(part r bare (open q)) (part s bare (open r))"))


def great(words):
    """An expression, written, of the kind wide(words)."""
    return "(two (lit 0 1) " * (words // 2) + "(lit 0 1)" + ")" * (words // 2)


if __name__ == "__main__":
    unittest.main()

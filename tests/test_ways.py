"""Ways: kinds written out step by step: [26]."""

import unittest

from samples import far
from sealhouse.looker import look
from sealhouse.reading import read_house, read_kind
from sealhouse.ways import step, trail, way
from sealhouse.writing import kind_text

HOUSE = """
(face cell (hid t) (hid u) (told s (pair t (pair u t))) (told r s))
(part one (cell (u (num 2))) (kind t (num 7)) (kind u (num 2)) (kind s (pair t (pair u t))) (kind r s))
(face near (hid t) (told v (pair t one.s)) (hid w))
(part next (near (w one.r)) (kind t one.t) (kind v (pair t one.s)) (kind w one.s) (kind more t))
(part plain bare (kind a (pair next.v (num 3))) (kind c a))
"""
OPENING = """
(part opener bare (kind k (num 4)) (open next) (kind z (pair w k)))
(part shut (near (w opener.k) (t next.t)) (kind t next.t) (kind v (pair t one.s)) (kind w (num 4)))
"""
MAKERS = """
(face only (hid t))
(face show (hid t) (told d (pair t t)) (hid e) (told f (pair e next.t)))
(maker sealed ((x only) (y only (t (pair x.t x.t)))) (show (e (pair y.t plain.c)))
  (kind t x.t) (kind d (pair t t)) (kind e (pair y.t plain.c)) (kind f (pair e next.t)))
(maker shown ((x only) (y cell)) bare (kind a (pair x.t y.t)) (open y) (kind b (pair a s)) (kind g one.s))
(part twin bare (kind t (pair next.t next.t)) (kind u (num 1)))
(made p sealed next twin)
(made y shown twin one)
(made x shown y y)
"""
WHOLE = HOUSE + OPENING + MAKERS


def house(text=WHOLE):
    return read_house(text)


def texts(kinds):
    return [kind_text(kind) for kind in kinds]


class StepTest(unittest.TestCase):
    def steps(self, told):
        for name, due in told.items():
            part, word = name.split(".")
            found = step(house(), part, word)
            self.assertEqual(found, None if due is None else read_kind(due), name)

    def test_a_bare_part(self):
        self.steps({"plain.a": "(pair next.v (num 3))", "plain.c": "plain.a"})

    def test_what_a_bare_part_opens(self):
        self.steps({"opener.k": "(num 4)", "opener.t": "next.t", "opener.v": "next.v", "opener.w": "next.w",
                    "opener.z": "(pair opener.w opener.k)"})

    def test_a_sealed_part(self):
        self.steps({"one.t": None, "one.u": "(num 2)", "one.s": "(pair one.t (pair one.u one.t))", "one.r": "one.s"})
        self.steps({"next.t": None, "next.v": "(pair next.t one.s)", "next.w": "one.r"})
        self.steps({"shut.t": "next.t", "shut.w": "opener.k", "shut.v": "(pair shut.t one.s)"})

    def test_a_part_made_by_a_sealed_maker(self):
        self.steps({"p.t": None, "p.d": "(pair p.t p.t)", "p.e": "(pair twin.t plain.c)", "p.f": "(pair p.e next.t)"})

    def test_a_part_made_by_a_bare_maker(self):
        self.steps({"y.a": "(pair twin.t one.t)", "y.t": "one.t", "y.u": "one.u", "y.s": "one.s", "y.r": "one.r",
                    "y.b": "(pair y.a y.s)", "y.g": "one.s"})

    def test_words_of_formals_are_exchanged_at_once(self):
        self.steps({"x.a": "(pair y.t y.t)", "x.t": "y.t", "x.b": "(pair x.a x.s)"})
        found = step(house(WHOLE + "(made z shown x y)"), "z", "a")
        self.assertEqual(found, read_kind("(pair x.t y.t)"))

    def test_formals_given_crosswise(self):
        text = "(face only (hid t)) (part one bare (kind t (num 1))) " \
               "(maker m ((x only) (y only)) bare (kind a (pair x.t (pair y.t one.t))) (kind c (pair a x.t))) " \
               "(part y bare (kind t (num 2))) (part x bare (kind t (num 3))) (made q m y x)"
        told = house(text)
        self.assertEqual(step(told, "q", "a"), read_kind("(pair y.t (pair x.t one.t))"))
        self.assertEqual(step(told, "q", "c"), read_kind("(pair q.a y.t)"))
        self.assertEqual(texts(trail(told, "q", "a"))[-1], "(pair (num 2) (pair (num 3) (num 1)))")

    def test_an_opened_formal_brings_what_it_wants_alone(self):
        text = "(face only (hid t)) (face other (hid u)) (part one bare (kind u (num 1)) (kind t (num 2))) " \
               "(part bit bare (kind u (num 3)) (kind t (num 4))) (maker m ((x only) (y other)) bare (open x) (open y)) " \
               "(made p m one bit)"
        told = house(text)
        self.assertEqual(step(told, "p", "t"), far("one", "t"))
        self.assertEqual(step(told, "p", "u"), far("bit", "u"))
        self.assertEqual(texts(trail(told, "p", "u")), ["p.u", "bit.u", "(num 3)"])

    def test_a_part_called_like_a_formal_is_opened_whole(self):
        told = house("(face only (hid t)) (maker m ((x only)) bare (open x)) (part x bare (kind t (num 1)) (kind u (num 2))) "
                     "(made p m x) (part q bare (open x)) (part r bare (kind k (pair p.t q.u)))")
        self.assertEqual(texts(trail(told, "r", "k")), [
            "r.k", "(pair p.t q.u)", "(pair x.t q.u)", "(pair (num 1) q.u)", "(pair (num 1) x.u)",
            "(pair (num 1) (num 2))",
        ])

    def test_an_opened_part_brings_what_is_seen_alone(self):
        text = "(face only (hid t)) (face none) (part one (none) (kind t (num 2))) (part bit bare (kind t (num 3))) " \
               "(part p bare (open one) (open bit))"
        self.assertEqual(step(house(text), "p", "t"), far("bit", "t"))

    def test_two_words_of_one_hidden_kind(self):
        told = house("(face f (hid t) (told s t)) (part p (f) (kind s (num 2)) (kind t (num 2))) (part q bare (open p))")
        self.assertIsNone(step(told, "p", "t"))
        self.assertEqual(step(told, "p", "s"), far("p", "t"))
        self.assertEqual(texts(trail(told, "q", "s")), ["q.s", "p.s", "p.t"])

    def test_names_are_far_names(self):
        seen = look(house())
        for part in seen.parts:
            for word in seen.parts[part].kinds:
                found = step(house(), part, word)
                self.assertEqual(found is None, seen.parts[part].kinds[word] == far(part, word))
                if found is not None:
                    self.assertNotIn("'name', ''", repr(found))


class TrailTest(unittest.TestCase):
    def test_trails(self):
        for name, due in (
            ("one.t", ["one.t"]),
            ("one.u", ["one.u", "(num 2)"]),
            ("one.r", ["one.r", "one.s", "(pair one.t (pair one.u one.t))", "(pair one.t (pair (num 2) one.t))"]),
            ("p.d", ["p.d", "(pair p.t p.t)"]),
            ("shut.v", ["shut.v", "(pair shut.t one.s)", "(pair next.t one.s)",
                        "(pair next.t (pair one.t (pair one.u one.t)))",
                        "(pair next.t (pair one.t (pair (num 2) one.t)))"]),
            ("y.a", ["y.a", "(pair twin.t one.t)", "(pair (pair next.t next.t) one.t)"]),
        ):
            part, word = name.split(".")
            self.assertEqual(texts(trail(house(), part, word)), due, name)

    def test_one_name_at_one_place(self):
        told = house("(part p bare (kind a (num 2)) (kind b a) (kind c (pair (pair b b) b)))")
        self.assertEqual(texts(trail(told, "p", "c")), [
            "p.c", "(pair (pair p.b p.b) p.b)", "(pair (pair p.a p.b) p.b)", "(pair (pair (num 2) p.b) p.b)",
            "(pair (pair (num 2) p.a) p.b)", "(pair (pair (num 2) (num 2)) p.b)", "(pair (pair (num 2) (num 2)) p.a)",
            "(pair (pair (num 2) (num 2)) (num 2))",
        ])

    def test_they_end_with_what_is_seen(self):
        seen = look(house())
        for part in seen.parts:
            for word, kind in seen.parts[part].kinds.items():
                kinds = trail(house(), part, word)
                self.assertEqual((kinds[0], kinds[-1]), (far(part, word), kind))
                self.assertEqual(len(set(kinds)), len(kinds))

    def test_what_is_handed_in_stays(self):
        told = house()
        trail(told, "p", "f").clear()
        step(told, "p", "f")
        way(told, ("p", "f"), ("p", "f")).clear()
        self.assertEqual(told, house())


class WayTest(unittest.TestCase):
    def ways(self, one, other):
        found = way(house(), tuple(one.split(".")), tuple(other.split(".")))
        return None if found is None else texts(found)

    def test_there_and_back(self):
        self.assertEqual(self.ways("next.w", "y.g"), [
            "next.w", "one.r", "one.s", "(pair one.t (pair one.u one.t))", "(pair one.t (pair (num 2) one.t))",
            "(pair one.t (pair one.u one.t))", "one.s", "y.g",
        ])
        self.assertEqual(self.ways("opener.k", "shut.w"), ["opener.k", "(num 4)", "opener.k", "shut.w"])
        self.assertEqual(self.ways("shut.w", "opener.k"), ["shut.w", "opener.k", "(num 4)", "opener.k"])

    def test_hidden_ends(self):
        self.assertEqual(self.ways("next.t", "next.t"), ["next.t"])
        self.assertEqual(self.ways("shut.t", "next.t"), ["shut.t", "next.t"])
        self.assertEqual(self.ways("next.t", "shut.t"), ["next.t", "shut.t"])
        self.assertEqual(self.ways("shut.t", "opener.t"), ["shut.t", "next.t", "opener.t"])

    def test_one_and_the_same(self):
        self.assertEqual(self.ways("one.u", "one.u"), ["one.u", "(num 2)", "one.u"])

    def test_none(self):
        for one, other in (("one.t", "next.t"), ("p.t", "next.t"), ("one.u", "one.t"), ("one.s", "next.v"),
                           ("y.t", "p.t"), ("opener.k", "one.u")):
            self.assertIsNone(self.ways(one, other))
            self.assertIsNone(self.ways(other, one))

    def test_ways_back_are_ways_turned_round(self):
        seen = look(house())
        names = [(part, word) for part in seen.parts for word in seen.parts[part].kinds]
        for one in names:
            for other in names[::3]:
                found = way(house(), one, other)
                same = seen.parts[one[0]].kinds[one[1]] == seen.parts[other[0]].kinds[other[1]]
                self.assertEqual(found is not None, same)
                if same:
                    self.assertEqual(way(house(), other, one), found[::-1])
                    self.assertEqual((found[0], found[-1]), (far(one[0], one[1]), far(other[0], other[1])))


if __name__ == "__main__":
    unittest.main()

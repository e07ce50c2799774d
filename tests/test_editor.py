"""The editor: a part exchanged for another one behind the same face: [38]."""

import unittest

from samples import SameTest
from sealhouse.editor import exchanged
from sealhouse.errors import NotPlain
from sealhouse.kinds import names_in
from sealhouse.linker import link
from sealhouse.looker import kind_of, look, wrong_at
from sealhouse.reading import read_expression, read_house
from sealhouse.runner import run
from sealhouse.running import House
from sealhouse.ties import tie

CELL = "(face cell (hid t) (fun make ((num 9)) t) (fun read (t) (num 9)))"
ONE = "(part one (cell) (kind t (num 9)) (fun make ((x (num 9))) t x) (fun read ((x t)) (num 9) x))"
OTHER = "(part other (cell) (kind t (pair (num 9) (num 2))) (fun make ((x (num 9))) t (two (- 9 (lit 0 9) x) (lit 1 2))) " \
        "(fun read ((x t)) (num 9) (- 9 (lit 0 9) (first x))))"
USER = "(part user bare (open one) (fun again ((x t)) t (make (+ 9 (read x) (lit 1 9)))))"
MAKER = "(maker twice ((x cell)) (cell) (kind t (pair x.t one.t)) (fun make ((n (num 9))) t (two (x.make n) (one.make n))) " \
        "(fun read ((v t)) (num 9) (+ 9 (x.read (first v)) (one.read (second v)))))"
USES = ("(one.read (one.make (lit 5 9)))", "(one.read (user.again (user.make (lit 3 9))))", "(p.read (p.make (lit 4 9)))",
        "(user.read (user.again (one.make (lit 8 9))))", "(two (lit 3 9) (other.read (other.make (lit 2 9))))")


def house(text):
    """A house that is let by and links."""
    told = read_house(text)
    assert wrong_at(told) is None, text
    link(told)
    return told


class EditorTest(SameTest):
    def setUp(self):
        self.house = house(CELL + ONE + OTHER + USER + MAKER + "(made p twice one) (made q twice other)")

    def same_answers(self, one, other):
        for text in USES:
            use = read_expression(text)
            self.assertEqual(names_in(kind_of(look(one), use)), [])
            self.assertEqual(kind_of(look(other), use), kind_of(look(one), use))
            self.assertEqual(run(link(other), use), run(link(one), use))
            self.assertEqual(House(other).run(use), House(one).run(use))

    def test_a_part(self):
        new = exchanged(self.house, "one", "other")
        moved = ("part", "one") + self.house[2][2:]
        self.assertEqual(new, self.house[:1] + [moved] + self.house[2:])
        self.assertIsNone(wrong_at(new))
        self.assertEqual(tie(self.house, "one", "other")[0], "tied")
        self.same_answers(self.house, new)
        # Hidden values are others now.
        use = read_expression("(one.make (lit 1 9))")
        self.assertEqual((run(link(self.house), use), run(link(new), use)), (1, (8, 1)))

    def test_for_a_part_ahead(self):
        new = exchanged(self.house, "other", "one")
        self.assertEqual(new, self.house[:2] + [("part", "other") + self.house[1][2:]] + self.house[3:])
        self.same_answers(self.house, new)

    def test_a_made_part(self):
        new = exchanged(self.house, "p", "q")
        self.assertEqual(new, self.house[:5] + [("made", "p", "twice", ("other",))] + self.house[6:])
        self.assertIsNone(wrong_at(new))
        self.same_answers(self.house, new)

    def test_a_made_part_for_a_part(self):
        told = house(CELL + ONE + OTHER + "(maker same ((x cell)) (cell) (open x)) (made a same one) (part b (cell) (open other))")
        self.assertEqual(exchanged(told, "a", "b"), told[:4] + [("part", "a") + told[5][2:]] + told[5:])
        self.assertEqual(exchanged(told, "b", "a"), told[:5] + [("made", "b", "same", ("one",))])
        self.assertEqual(exchanged(told, "b", "one"), told[:5] + [("part", "b") + told[1][2:]])
        for p, q in (("a", "b"), ("b", "a"), ("b", "one"), ("a", "one")):
            self.assertIsNone(wrong_at(exchanged(told, p, q)))

    def test_a_part_by_itself(self):
        for word in ("one", "other", "p", "q"):
            self.assertEqual(exchanged(self.house, word, word), self.house)

    def test_a_part_that_names_the_other_isnt_looked_at(self):
        # q names p, so that the new house isn't let by; it is told all the same.
        told = house(CELL + ONE + "(part q (cell) (kind t one.t) (fun make ((x (num 9))) t (one.make x)) "
                                  "(fun read ((x t)) (num 9) (one.read x)))")
        new = exchanged(told, "one", "q")
        self.assertEqual(new, [told[0], ("part", "one") + told[2][2:], told[2]])
        self.assertEqual(wrong_at(new), 1)

    def test_another_face_of_the_same_least_form(self):
        face = "(face like (hid t) (fun read (t) (num 9)) (fun make ((num 9)) t))"
        told = house(CELL + ONE + face + OTHER.replace("(cell)", "(like)") + USER + MAKER + "(made p twice one)")
        new = exchanged(told, "other", "one")
        self.assertEqual(new[3], ("part", "other") + told[1][2:])
        self.same_answers(told, new)

    def test_parted_parts_are_exchanged_too(self):
        told = house(CELL + ONE + ONE.replace("part one", "part other").replace("(num 9) x))", "(num 9) (lit 3 9)))"))
        found = tie(told, "one", "other")
        self.assertEqual(found[0], "parted")
        new = exchanged(told, "one", "other")
        self.assertNotEqual(run(link(told), found[1]), run(link(new), found[1]))

    def test_refused(self):
        told = house(CELL + ONE + OTHER + USER + "(part reader bare (fun f ((x one.t)) (num 9) (one.read x)))")
        self.no_fit("user", "", None, None, lambda: exchanged(told, "one", "user"))
        self.no_fit("one", "", None, None, lambda: exchanged(told, "user", "one"))
        for word in ("user", "reader"):
            with self.assertRaises(NotPlain):
                exchanged(told, word, word)
        self.no_fit("reader", "", None, None, lambda: exchanged(told, "user", "reader"))

    def test_the_house_handed_in_stays(self):
        before = list(self.house)
        new = exchanged(self.house, "one", "other")
        self.assertIsInstance(new, list)
        new.clear()
        self.assertEqual(self.house, before)
        exchanged(self.house, "one", "one").clear()
        self.assertEqual(self.house, before)


if __name__ == "__main__":
    unittest.main()

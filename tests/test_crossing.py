"""Crossings: plain ones, and marks: [33]."""

import unittest

from samples import TWO, far, pair
from sealhouse.crossing import Crossing, Marks
from sealhouse.errors import NoMark

T = far("p", "t")
S = far("p", "s")
OTHER = far("q", "t")
MOST = 10 ** 18


def mark(number):
    return ("mark", number)


class PlainTest(unittest.TestCase):
    def test_all_is_left_as_it_is(self):
        plain = Crossing()
        for kind, value in ((TWO, 1), (T, 5), (OTHER, (1, 2)), (pair(T, pair(TWO, S)), (1, (0, (3, 4))))):
            self.assertEqual(plain.inward("p", kind, value), value)
            self.assertEqual(plain.outward("p", kind, value), value)
            self.assertEqual(plain.bared(value), value)


class OutwardTest(unittest.TestCase):
    def test_nums_and_kinds_of_others_go_as_they_are(self):
        marks = Marks()
        self.assertEqual(marks.outward("p", TWO, 1), 1)
        self.assertEqual(marks.outward("p", OTHER, (3, 4)), (3, 4))
        self.assertEqual(marks.outward("p", OTHER, mark(8)), mark(8))
        self.assertEqual(marks.outward("p", pair(TWO, OTHER), (1, 7)), (1, 7))
        # None of these made a mark.
        self.assertEqual(marks.outward("p", T, 5), mark(1))

    def test_hidden_kinds_of_the_part_that_is_left(self):
        marks = Marks()
        self.assertEqual(marks.outward("p", T, 5), mark(1))
        self.assertEqual(marks.outward("p", S, (1, 2)), mark(2))
        self.assertEqual(marks.outward("q", OTHER, 5), mark(3))
        self.assertEqual(marks.behind(mark(1)), ("p", "t", 5))
        self.assertEqual(marks.behind(mark(2)), ("p", "s", (1, 2)))
        self.assertEqual(marks.behind(mark(3)), ("q", "t", 5))

    def test_a_new_mark_each_time(self):
        marks = Marks()
        self.assertEqual([marks.outward("p", T, 5) for each in range(3)], [mark(1), mark(2), mark(3)])

    def test_the_first_half_goes_ahead(self):
        marks = Marks()
        kind = pair(pair(T, TWO), pair(OTHER, pair(S, T)))
        self.assertEqual(marks.outward("p", kind, ((10, 0), (11, (12, 13)))), ((mark(1), 0), (11, (mark(2), mark(3)))))
        self.assertEqual([marks.behind(mark(number)) for number in (1, 2, 3)],
                         [("p", "t", 10), ("p", "s", 12), ("p", "t", 13)])

    def test_start_and_step(self):
        for start, step in ((1, 1), (7, 1), (1, 5), (100, 3), (MOST, MOST)):
            marks = Marks(start, step)
            made = marks.outward("p", pair(T, pair(S, T)), (1, (2, 3)))
            self.assertEqual(made, (mark(start), (mark(start + step), mark(start + 2 * step))))
            self.assertEqual(marks.inward("p", pair(T, pair(S, T)), made), (1, (2, 3)))
        self.assertEqual(Marks(start=4).outward("p", T, 0), mark(4))
        marks = Marks(step=4)
        self.assertEqual([marks.outward("p", T, 0), marks.outward("p", T, 0)], [mark(1), mark(5)])

    def test_each_marks_has_its_own(self):
        one, other = Marks(), Marks()
        one.outward("p", T, 5)
        with self.assertRaises(NoMark):
            other.behind(mark(1))
        self.assertEqual(other.outward("p", T, 6), mark(1))
        self.assertEqual((one.behind(mark(1))[2], other.behind(mark(1))[2]), (5, 6))


class InwardTest(unittest.TestCase):
    def setUp(self):
        self.marks = Marks(10, 10)
        self.marks.outward("p", T, 5)
        self.marks.outward("p", S, (1, 2))
        self.marks.outward("q", OTHER, 7)

    def test_marks_are_exchanged(self):
        for each in range(2):
            self.assertEqual(self.marks.inward("p", T, mark(10)), 5)
            self.assertEqual(self.marks.inward("p", S, mark(20)), (1, 2))
            self.assertEqual(self.marks.inward("q", OTHER, mark(30)), 7)

    def test_the_rest_stays(self):
        self.assertEqual(self.marks.inward("p", TWO, 1), 1)
        self.assertEqual(self.marks.inward("p", OTHER, mark(30)), mark(30))
        self.assertEqual(self.marks.inward("q", T, mark(10)), mark(10))
        self.assertEqual(self.marks.inward("p", pair(pair(T, OTHER), pair(TWO, S)), ((mark(10), mark(30)), (1, mark(20)))),
                         ((5, mark(30)), (1, (1, 2))))

    def test_what_is_no_mark(self):
        for value in (0, 5, 10, (1, 2), (mark(10), mark(10)), mark(1), mark(11), mark(40), mark(0)):
            with self.assertRaises(NoMark, msg=value):
                self.marks.inward("p", T, value)

    def test_marks_of_another_part_or_kind(self):
        for part, kind, value in (("p", T, mark(20)), ("p", T, mark(30)), ("p", S, mark(10)), ("q", OTHER, mark(10)),
                                  ("q", far("q", "s"), mark(30)), ("r", far("r", "t"), mark(10))):
            with self.assertRaises(NoMark, msg=(part, kind, value)):
                self.marks.inward(part, kind, value)

    def test_within_a_pair(self):
        for value in ((mark(10), 2), (mark(20), mark(20)), (5, mark(20)), (mark(10), mark(10))):
            with self.assertRaises(NoMark, msg=value):
                self.marks.inward("p", pair(T, S), value)
        self.assertEqual(self.marks.inward("p", pair(T, S), (mark(10), mark(20))), (5, (1, 2)))

    def test_a_refusal_changes_nothing(self):
        for value in (3, mark(11)):
            with self.assertRaises(NoMark):
                self.marks.inward("p", T, value)
        self.assertEqual(self.marks.outward("p", T, 6), mark(40))


class BaredTest(unittest.TestCase):
    def test_marks_within_what_marks_keep(self):
        marks = Marks()
        inner = marks.outward("q", OTHER, (3, 4))
        outer = marks.outward("p", T, (inner, (1, inner)))
        last = marks.outward("r", far("r", "t"), outer)
        self.assertEqual(marks.behind(outer), ("p", "t", (inner, (1, inner))))
        self.assertEqual(marks.behind(last), ("r", "t", outer))
        self.assertEqual(marks.bared(inner), (3, 4))
        self.assertEqual(marks.bared(outer), ((3, 4), (1, (3, 4))))
        self.assertEqual(marks.bared((last, 2)), (((3, 4), (1, (3, 4))), 2))

    def test_without_marks(self):
        self.assertEqual(Marks().bared(5), 5)
        self.assertEqual(Marks().bared(((1, 2), 3)), ((1, 2), 3))

    def test_a_mark_never_made(self):
        marks = Marks(5, 5)
        made = marks.outward("p", T, (1, mark(6)))
        for value in (mark(6), mark(10), mark(1), (1, mark(10)), (made, 2), made):
            with self.assertRaises(NoMark, msg=value):
                marks.bared(value)

    def test_deep_within(self):
        marks = Marks()
        value = 7
        for each in range(16):
            value = marks.outward("p", T, (0, (1, (2, (3, value)))))
        bared = marks.bared(value)
        for each in range(16 * 4):
            bared = bared[1]
        self.assertEqual(bared, 7)


class BehindTest(unittest.TestCase):
    def test_what_is_no_mark_that_was_made(self):
        marks = Marks(3, 4)
        marks.outward("p", T, 0)
        self.assertEqual(marks.behind(mark(3)), ("p", "t", 0))
        for value in (mark(4), mark(7), mark(1), mark(0), 3, (3, 3)):
            with self.assertRaises(NoMark, msg=value):
                marks.behind(value)


if __name__ == "__main__":
    unittest.main()

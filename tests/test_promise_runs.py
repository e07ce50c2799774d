"""The promise for runs, on houses built at random from seeds: [34], and [4] as far as it speaks of runs."""

import unittest

from houses import built, some_orders, uses_from_outside
from sealhouse.crossing import Marks
from sealhouse.errors import Refused
from sealhouse.kinds import names_in
from sealhouse.linker import link
from sealhouse.looker import look
from sealhouse.runner import ask, run
from sealhouse.running import House
from twins import twins

SEEDS = range(90)
USES = 10
NUMBERING = ((1, 1), (1000, 7), (10 ** 18, 10 ** 18))


def is_mark(value):
    return isinstance(value, tuple) and value[:1] == ("mark",)


def marked_rightly(kind, value):
    """Whether just the values of hidden kinds are marks."""
    if kind[0] == "name":
        return is_mark(value)
    if kind[0] == "pair":
        return not is_mark(value) and marked_rightly(kind[1], value[0]) and marked_rightly(kind[2], value[1])
    return isinstance(value, int) and 0 <= value < kind[1]


def without_numbers(value, met):
    """A value in which marks are numbered by when they are met first."""
    if is_mark(value):
        return ("mark", met.setdefault(value, len(met)))
    if isinstance(value, tuple):
        return tuple(without_numbers(each, met) for each in value)
    return value


class RunsTest(unittest.TestCase):
    @classmethod
    def setUpClass(cls):
        cls.cases = []
        for make, seed in [(built, seed) for seed in SEEDS] + [(twins, seed) for seed in SEEDS[::3]]:
            house = make(seed)
            try:
                link(house)
            except Refused:
                continue
            cls.cases.append(((make.__name__, seed), house, uses_from_outside(house, seed, USES)))

    def each_use(self):
        for title, house, told in self.cases:
            for number, (use, kind) in enumerate(told):
                yield title + (number,), house, use, kind

    def test_there_are_enough(self):
        rows = []
        hidden = plain = 0
        for at, house, use, kind in self.each_use():
            with self.subTest(at=at):
                running = House(house)
                running.run(use)
                rows.append(len(running.rows))
                hidden += bool(names_in(kind))
                plain += not names_in(kind)
        self.assertGreater(min(hidden, plain), 100)
        self.assertGreater(sum(rows), 2000)
        self.assertGreater(max(rows), 12)

    def test_the_same_answer_linked_in_each_order_and_as_it_stands(self):
        for title, house, told in self.cases:
            programs = [link(house, order) for order in some_orders(house)]
            for number, (use, kind) in enumerate(told):
                with self.subTest(title=title, number=number):
                    due = House(house).run(use)
                    for program in programs:
                        self.assertEqual(run(program, use), due)

    def test_the_answer_with_marks_bared_is_that_without(self):
        for at, house, use, kind in self.each_use():
            with self.subTest(at=at):
                due = House(house).run(use)
                for start, step in NUMBERING:
                    marks = Marks(start, step)
                    found = House(house, marks).run(use)
                    self.assertEqual(marks.bared(found), due)
                    self.assertTrue(marked_rightly(kind, found))
                    if not names_in(kind):
                        self.assertEqual(found, due)

    def test_the_rows_with_marks_bared_are_those_without(self):
        for at, house, use, kind in self.each_use():
            with self.subTest(at=at):
                plain = House(house)
                plain.run(use)
                for start, step in NUMBERING[:2]:
                    marks = Marks(start, step)
                    marked = House(house, marks)
                    marked.run(use)
                    bared = [(p, f, tuple(marks.bared(value) for value in values), marks.bared(answer))
                             for p, f, values, answer in marked.rows]
                    self.assertEqual(bared, plain.rows)

    def test_just_the_values_of_hidden_kinds_are_marks(self):
        for at, house, use, kind in self.each_use():
            with self.subTest(at=at):
                faces = look(house).parts
                marked = House(house, Marks())
                marked.run(use)
                for p, f, values, answer in marked.rows:
                    kinds, told = faces[p].funs[f]
                    self.assertEqual(len(values), len(kinds))
                    for each, value in zip(kinds + (told,), values + (answer,)):
                        self.assertTrue(marked_rightly(each, value), (p, f, each, value))

    def test_marks_are_numbered_alike_whatever_start_and_step(self):
        for at, house, use, kind in self.each_use():
            with self.subTest(at=at):
                found = []
                for start, step in NUMBERING:
                    running = House(house, Marks(start, step))
                    met = {}
                    found.append((running.run(use), running.rows))
                    found[-1] = without_numbers(found[-1][0], met), [
                        (p, f, without_numbers(values, met), without_numbers(answer, met))
                        for p, f, values, answer in found[-1][1]]
                self.assertEqual(found[1:], found[:1] * 2)

    def test_rows_are_what_the_linked_program_answers(self):
        for at, house, use, kind in self.each_use():
            with self.subTest(at=at):
                running = House(house)
                running.run(use)
                program = link(house)
                for p, f, values, answer in running.rows:
                    self.assertEqual(ask(program, p, f, list(values)), answer)

    def test_several_uses_on_one_house(self):
        for title, house, told in self.cases:
            with self.subTest(title=title):
                together = House(house)
                rows = []
                for use, kind in told:
                    alone = House(house)
                    self.assertEqual(together.run(use), alone.run(use))
                    rows += alone.rows
                    self.assertEqual(together.rows, rows)


if __name__ == "__main__":
    unittest.main()

"""The promise for ties, exchange and the desk, on houses built at random from seeds: [35] to [39], and the whole of [4]."""

import itertools
import math
import unittest

from houses import built, some_orders, uses_from_outside
from samples import exchanged_calls
from sealhouse.crossing import Marks
from sealhouse.desk import answer, compared, join_text, value_text, way_text
from sealhouse.editor import exchanged
from sealhouse.errors import Clash, NoFit, NotPlain, NoTree, Refused, TooWide
from sealhouse.expressions import calls_in
from sealhouse.faces import least
from sealhouse.joining import joined
from sealhouse.kinds import names_in
from sealhouse.linker import link
from sealhouse.looker import kind_of, look, wrong_at
from sealhouse.papers import behind_one_face, fails, tied
from sealhouse.plain import plain_look
from sealhouse.reading import declaration_of_tree, read_expression, read_house
from sealhouse.runner import ask, run
from sealhouse.running import House
from sealhouse.ties import tie
from sealhouse.trees import trees_of
from sealhouse.ways import way
from sealhouse.writing import expression_text, house_text, kind_text
from twins import twins

SEEDS = range(90)


def pool(kind, known):
    """All pairs of values that are tied at a kind."""
    if kind[0] == "num":
        return [(number, number) for number in range(kind[1])]
    if kind[0] == "pair":
        return [((a, c), (b, d)) for a, b in pool(kind[1], known) for c, d in pool(kind[2], known)]
    return sorted({(a, b) for t, a, b in known if t == kind[2]})


def leaves(kind, one, other):
    """The nums and hidden kinds of a kind, with the values that stand there."""
    if kind[0] != "pair":
        return [(kind, one, other)]
    return leaves(kind[1], one[0], other[0]) + leaves(kind[2], one[1], other[1])


def told_by_rounds(house, p, q):
    """What the rounds of [37] come to, all asked anew in each round of the house as it stands; no use is told."""
    funs = behind_one_face(house, p, q)[1]
    running = House(house)
    known = set()
    while True:
        pools = {word: [pool(kind, known) for kind in kinds] for word, kinds, kind in funs}
        if any(math.prod(len(each) for each in pools[word]) > 64 for word in pools):
            return ("open",)
        found = set()
        for word, kinds, kind in funs:
            for row in itertools.product(*pools[word]):
                one = running.ask(p, word, [pair[0] for pair in row])
                other = running.ask(q, word, [pair[1] for pair in row])
                found.update(leaves(kind, one, other))
        if any(kind[0] == "num" and one != other for kind, one, other in found):
            return ("parted",)
        new = {(kind[2], one, other) for kind, one, other in found if kind[0] == "name"} - known
        known |= new
        if len(known) > 16:
            return ("open",)
        if not new:
            return ("tied", sorted(known))


def stands_free(house, p, q):
    """Whether q's declaration names neither p nor anything that stands behind p's; False also where it only may."""
    words = [declaration[1] for declaration in house]
    told = house_text([house[words.index(q)]]).replace("(", " ").replace(")", " ").split()[2:]
    named = {word.split(".")[0] for word in told}
    return q == p or not named & set(words[words.index(p):])


class TiesTest(unittest.TestCase):
    @classmethod
    def setUpClass(cls):
        cls.cases = []
        for seed in SEEDS:
            house = twins(seed)
            try:
                link(house)
            except Refused:
                continue
            for p, q in itertools.product(look(house).parts, repeat=2):
                try:
                    behind_one_face(house, p, q)
                except (NoFit, NotPlain):
                    continue
                cls.cases.append((seed, house, p, q, tie(house, p, q)))

    def each(self, form):
        for seed, house, p, q, told in self.cases:
            if told[0] == form:
                yield (seed, p, q), house, p, q, told

    def test_there_are_enough(self):
        found = [told[0] for seed, house, p, q, told in self.cases if p != q]
        for form, least_count in (("tied", 200), ("parted", 40), ("open", 10)):
            self.assertGreater(found.count(form), least_count)
        self.assertGreater(max(len(told[1]) for seed, house, p, q, told in self.cases if told[0] == "tied"), 6)

    def test_told_as_the_rounds_go(self):
        for seed, house, p, q, told in self.cases:
            with self.subTest(seed=seed, p=p, q=q):
                due = told_by_rounds(house, p, q)
                self.assertEqual(told if told[0] == "tied" else told[:1], due)

    def test_the_rows_are_a_paper_that_holds_and_the_least(self):
        for at, house, p, q, told in self.each("tied"):
            with self.subTest(at=at):
                rows = told[1]
                self.assertIsNone(fails(house, p, q, rows))
                self.assertIsNone(fails(house, p, q, rows[::-1] + rows))
                for place in range(len(rows))[:4]:
                    paper = rows[:place] + rows[place + 1:]
                    self.assert_fails(house, p, q, paper)

    def assert_fails(self, house, p, q, paper):
        f, values, others = fails(house, p, q, paper)
        funs = {word: (kinds, kind) for word, kinds, kind in behind_one_face(house, p, q)[1]}
        kinds, kind = funs[f]
        self.assertEqual((len(values), len(others)), (len(kinds), len(kinds)))
        for each, one, other in zip(kinds, values, others):
            self.assertTrue(tied(each, one, other, paper))
        program = link(house)
        self.assertFalse(tied(kind, ask(program, p, f, list(values)), ask(program, q, f, list(others)), paper))

    def test_a_paper_fails_for_parts_that_are_parted(self):
        for at, house, p, q, told in self.each("parted"):
            with self.subTest(at=at):
                try:
                    self.assert_fails(house, p, q, sorted(self.due_pairs(house, p, q)))
                except TooWide:
                    continue

    def due_pairs(self, house, p, q):
        """Pairs that each paper that holds would have, as many as are found in rounds of few rows each."""
        program = link(house)
        known = set()
        for each in range(3):
            for word, kinds, kind in behind_one_face(house, p, q)[1]:
                rows = itertools.product(*[pool(kind, known)[:5] for kind in kinds])
                for row in itertools.islice(rows, 20):
                    one = ask(program, p, word, [pair[0] for pair in row])
                    other = ask(program, q, word, [pair[1] for pair in row])
                    known |= {(its[2], a, b) for its, a, b in leaves(kind, one, other) if its[0] == "name"}
        return known

    def test_a_use_that_is_told_parts_them(self):
        for at, house, p, q, told in self.each("parted"):
            with self.subTest(at=at):
                use = told[1]
                turned = exchanged_calls(use, q)
                self.assertEqual(kind_of(look(house), use)[0], "num")
                self.assertEqual(kind_of(look(house), turned), kind_of(look(house), use))
                self.assertEqual({part for part, word in calls_in(use)}, {p})
                for answered in (lambda each: run(link(house), each), House(house).run, House(house, Marks(5, 3)).run):
                    self.assertNotEqual(answered(use), answered(turned))

    def test_exchanged_where_a_tie_holds(self):
        done = 0
        for at, house, p, q, told in self.each("tied"):
            with self.subTest(at=at):
                new = exchanged(house, p, q)
                if not stands_free(house, p, q):
                    continue
                self.assertIsNone(wrong_at(new))
                done += p != q
                try:
                    program, other = link(house), link(new)
                except Refused:
                    continue
                for use, kind in uses_from_outside(house, 7, 6):
                    if not names_in(kind):
                        self.assertEqual(kind_of(look(new), use), kind)
                        self.assertEqual(run(program, use), run(other, use))
        self.assertGreater(done, 100)

    def test_exchanged_where_they_are_parted(self):
        done = 0
        for at, house, p, q, told in self.each("parted"):
            with self.subTest(at=at):
                if stands_free(house, p, q):
                    new = exchanged(house, p, q)
                    self.assertNotEqual(run(link(house), told[1]), run(link(new), told[1]))
                    done += 1
        self.assertGreater(done, 30)

    def test_what_stands_where_in_the_exchanged_house(self):
        for seed, house, p, q, told in self.cases:
            with self.subTest(seed=seed, p=p, q=q):
                words = [declaration[1] for declaration in house]
                new = exchanged(house, p, q)
                self.assertEqual([declaration[1] for declaration in new], words)
                for place, word in enumerate(words):
                    due = house[words.index(q)] if word == p else house[place]
                    self.assertEqual(new[place], (due[0], word) + due[2:])

    def test_a_part_and_itself(self):
        for seed, house, p, q, told in self.cases:
            if p == q:
                with self.subTest(seed=seed, p=p):
                    self.assertIn(told[0], ("tied", "open"))
                    self.assertEqual(exchanged(house, p, p), house)
                    if told[0] == "tied":
                        self.assertEqual([row for row in told[1] if row[1] != row[2]], [])

    def test_compared_by_texts(self):
        for seed, house, p, q, told in self.cases:
            with self.subTest(seed=seed, p=p, q=q):
                found = compared(house_text(house), p, q)
                if told[0] == "tied":
                    self.assertEqual(found, f"tied {len(told[1])}")
                elif told[0] == "parted":
                    self.assertEqual(found, "parted " + expression_text(told[1]))
                    self.assertEqual(read_expression(found[len("parted "):]), told[1])
                else:
                    self.assertEqual(found, "open")


class WholeTest(unittest.TestCase):
    """From the text to the answer."""

    @classmethod
    def setUpClass(cls):
        cls.houses = [(make, seed, make(seed)) for make in (built, twins) for seed in range(60)]

    def each(self):
        for make, seed, house in self.houses:
            yield (make.__name__, seed), seed, house, house_text(house)

    def test_answers(self):
        plain = hidden = 0
        for at, seed, house, text in self.each():
            with self.subTest(at=at):
                self.assertEqual(read_house(text), house)
                try:
                    programs = [link(house, order) for order in some_orders(house)]
                except Refused as error:
                    with self.assertRaises(error.__class__):
                        answer(text, "(lit 0 1)")
                    continue
                for program in programs:
                    plain_look(program)
                for use, kind in uses_from_outside(house, seed + 1000, 8):
                    told = expression_text(use)
                    try:
                        trees_of(told)
                    except NoTree:
                        continue
                    marks = Marks(3, 2)
                    found = {value_text(run(program, use)) for program in programs}
                    found.add(value_text(House(house).run(use)))
                    found.add(value_text(marks.bared(House(house, marks).run(use))))
                    self.assertEqual(len(found), 1)
                    if names_in(kind):
                        hidden += 1
                        with self.assertRaises(NotPlain):
                            answer(text, told)
                    else:
                        plain += 1
                        self.assertEqual({answer(text, told)}, found)
        self.assertGreater(plain, 300)
        self.assertGreater(hidden, 100)

    def test_ways(self):
        for at, seed, house, text in self.each():
            with self.subTest(at=at):
                words = [(part, word) for part, face in look(house).parts.items() for word in face.kinds]
                for one, other in list(itertools.product(words, repeat=2))[::7]:
                    kinds = way(house, one, other)
                    faces = look(house).parts
                    self.assertEqual(kinds is None, faces[one[0]].kinds[one[1]] != faces[other[0]].kinds[other[1]])
                    due = "none" if kinds is None else " = ".join(kind_text(kind) for kind in kinds)
                    self.assertEqual(way_text(text, ".".join(one), ".".join(other)), due)

    def test_joins(self):
        for at, seed, house, text in self.each():
            with self.subTest(at=at):
                faces = look(house).faces
                for one, other in list(itertools.product(faces, repeat=2))[:16]:
                    try:
                        due = least(joined(faces[one], faces[other]))
                    except Clash:
                        with self.assertRaises(Clash):
                            join_text(text, one, other)
                        continue
                    # What is told of the join, read as a face's items: hidden kinds first, since others name them.
                    items = sorted(trees_of(join_text(text, one, other)), key=lambda tree: tree[0] != "hid")
                    again = look(house + [declaration_of_tree(("face", "again") + tuple(items))]).faces["again"]
                    self.assertEqual(least(again), due)


if __name__ == "__main__":
    unittest.main()

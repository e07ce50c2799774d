"""The promise for looking, linking and ways, on houses built at random from seeds: [4], [25] to [30]."""

import unittest

from houses import built, parts_of, some_orders
from sealhouse.errors import BadOrder, TooBig, TooHeavy
from sealhouse.kinds import names_in, put
from sealhouse.linker import link, uses
from sealhouse.looker import look, wrong_at
from sealhouse.plain import plain_look, weights
from sealhouse.ways import step, trail, way

SEEDS = range(120)


class Written:
    """Kinds with all names written out, by the items of parts alone, found anew at each name."""

    def __init__(self, house):
        self.by_word = {declaration[1]: declaration for declaration in house}
        self.seen = look(house)

    def kind(self, kind):
        return put(kind, {(q, t): self.name(q, t) for q, t in names_in(kind)})

    def name(self, q, t):
        told = self.by_word[q]
        given = {}
        brought = dict(self.seen.parts)
        if told[0] == "made":
            maker = self.by_word[told[2]]
            given = {formal[0]: part for formal, part in zip(maker[2], told[3])}
            brought.update(dict(self.seen.makers[told[2]].formals))
            told = maker
        for item in told[-1]:
            if item[:2] == ("kind", t):
                far = {(r, s): ("name", given.get(r, r) or q, s) for r, s in names_in(item[2])}
                return self.kind(put(item[2], far))
            if item[0] == "open" and t in brought[item[1]].kinds:
                return self.name(given.get(item[1], item[1]), t)
        raise AssertionError(f"no kind {q}.{t}")


class PromiseTest(unittest.TestCase):
    @classmethod
    def setUpClass(cls):
        cls.houses = {seed: built(seed) for seed in SEEDS}

    def each_house(self):
        for seed, house in self.houses.items():
            with self.subTest(seed=seed):
                yield house

    def test_houses_are_let_by(self):
        forms = [declaration[0] for house in self.each_house() for declaration in house]
        for form in ("face", "part", "maker", "made"):
            self.assertGreater(forms.count(form), len(SEEDS) // 4)
        for house in self.each_house():
            self.assertIsNone(wrong_at(house))

    def test_linked_in_each_order_and_let_by(self):
        linked = 0
        for house in self.each_house():
            try:
                first = link(house)
            except (TooBig, TooHeavy) as error:
                for order in some_orders(house):
                    with self.assertRaises(error.__class__):
                        link(house, order)
                continue
            linked += 1
            for order in some_orders(house):
                program = link(house, order)
                self.assertEqual(program, [row for part in order for row in first if row[0][0] == part])
                self.assertEqual(len(plain_look(program)), len(first))
                self.assertEqual(weights(program), weights(first))
        self.assertGreater(linked, len(SEEDS) * 3 // 4)

    def test_orders_in_which_a_part_stands_ahead_of_one_that_it_uses(self):
        for house in self.each_house():
            order = parts_of(house)
            for place, part in enumerate(order):
                used = [order.index(other) for other in uses(house, part)]
                self.assertTrue(all(other < place for other in used))
                if used:
                    moved = order[:max(used)] + [part] + order[max(used):place] + order[place + 1:]
                    with self.assertRaises(BadOrder):
                        link(house, moved)

    def test_linked_kinds_are_those_that_are_seen_written_out(self):
        for house in self.each_house():
            written = Written(house)
            try:
                told = plain_look(link(house))
            except (TooBig, TooHeavy):
                continue
            for part, face in look(house).parts.items():
                for word, fun in face.funs.items():
                    kinds = tuple(written.kind(kind) for kind in fun[0])
                    self.assertEqual(told[(part, word)], (kinds, written.kind(fun[1])))
            for kinds, kind in told.values():
                self.assertEqual([names_in(each) for each in kinds + (kind,)], [[]] * (len(kinds) + 1))

    def test_trails_and_ways(self):
        for house in self.each_house():
            parts = look(house).parts
            ends = {}
            for part in parts:
                for word, kind in parts[part].kinds.items():
                    kinds = trail(house, part, word)
                    self.assertEqual((kinds[0], kinds[-1]), (("name", part, word), kind))
                    self.assertEqual(step(house, part, word), kinds[1] if len(kinds) > 1 else None)
                    self.assertEqual(kind == ("name", part, word), len(kinds) == 1)
                    other = ends.setdefault(kind, (part, word))
                    there = trail(house, other[0], other[1])
                    self.assertEqual(way(house, other, (part, word)), there[:-1] + kinds[::-1])


if __name__ == "__main__":
    unittest.main()

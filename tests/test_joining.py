"""Kinds made equal, and faces joined: [17], [18]."""

import itertools
import random
import unittest

from samples import ONE, TWO, face, far, own, pair, wide
from sealhouse.errors import Clash
from sealhouse.faces import Face, least, under
from sealhouse.joining import joined, solved
from sealhouse.kinds import names_in, put, words_in

A, B, C, D = own("a"), own("b"), own("c"), own("d")
Q = far("q", "a")


class SolvedTest(unittest.TestCase):
    def clashes(self, *pairs):
        for order in itertools.permutations(pairs):
            for turned in (order, [(other, one) for one, other in order]):
                with self.subTest(pairs=turned), self.assertRaises(Clash):
                    solved(list(turned))

    def solves(self, told, *pairs):
        for order in itertools.permutations(pairs):
            for turned in (order, [(other, one) for one, other in order]):
                with self.subTest(pairs=turned):
                    self.assertEqual(solved(list(turned)), told)

    def test_nothing_to_solve(self):
        self.solves({})
        self.solves({}, (ONE, ONE))
        self.solves({}, (A, A))
        self.solves({}, (Q, Q))
        self.solves({}, (pair(A, pair(Q, ONE)), pair(A, pair(Q, ONE))))

    def test_a_name_and_a_kind(self):
        self.solves({("", "a"): ONE}, (A, ONE))
        self.solves({("", "a"): Q}, (A, Q))
        self.solves({("", "a"): pair(ONE, B)}, (A, pair(ONE, B)))
        self.solves({("", "a"): ONE, ("", "b"): pair(TWO, Q)}, (pair(A, pair(B, ONE)), pair(ONE, pair(pair(TWO, Q), A))))

    def test_the_later_name_is_told_as_the_earlier_one(self):
        self.solves({("", "b"): A}, (A, B))
        self.solves({("", "b"): A, ("", "c"): A}, (A, B), (B, C))
        self.solves({("", "b"): A, ("", "c"): A}, (C, B), (A, C))
        self.solves({("", "b"): A, ("", "c"): A, ("", "d"): A}, (C, D), (B, A), (D, B))
        self.solves({("", "ab"): own("aa"), ("", "b"): own("aa")}, (own("ab"), B), (own("aa"), B))

    def test_names_solved_through_one_another(self):
        self.solves({("", "a"): pair(TWO, TWO), ("", "b"): TWO}, (A, pair(B, B)), (B, TWO))
        self.solves({("", "a"): ONE, ("", "b"): ONE, ("", "c"): ONE}, (A, B), (B, C), (C, ONE))
        self.solves({("", "a"): pair(ONE, Q), ("", "b"): ONE, ("", "c"): Q}, (A, pair(B, C)), (A, pair(ONE, Q)))
        self.solves({("", "c"): pair(A, A), ("", "b"): A}, (C, pair(A, B)), (C, pair(B, A)))
        self.solves({("", "a"): pair(pair(ONE, D), ONE), ("", "b"): pair(ONE, D), ("", "c"): ONE},
                    (A, pair(B, C)), (B, pair(C, D)), (C, ONE))

    def test_unlike_kinds(self):
        self.clashes((ONE, TWO))
        self.clashes((ONE, pair(ONE, ONE)))
        self.clashes((ONE, Q))
        self.clashes((Q, pair(ONE, ONE)))
        self.clashes((Q, far("q", "b")))
        self.clashes((Q, far("r", "a")))
        self.clashes((pair(ONE, TWO), pair(TWO, ONE)))
        self.clashes((pair(ONE, TWO), pair(ONE, ONE)))
        self.clashes((A, ONE), (A, TWO))
        self.clashes((A, ONE), (A, Q))
        self.clashes((A, B), (B, ONE), (A, pair(C, C)))
        self.clashes((pair(A, A), pair(ONE, TWO)))

    def test_kinds_that_stand_within_themselves(self):
        self.clashes((A, pair(A, ONE)))
        self.clashes((A, pair(ONE, A)))
        self.clashes((A, pair(pair(ONE, pair(A, ONE)), ONE)))
        self.clashes((A, pair(B, B)), (B, pair(A, A)))
        self.clashes((A, B), (A, pair(ONE, B)))
        self.clashes((A, pair(ONE, B)), (B, pair(TWO, C)), (C, A))
        self.clashes((pair(A, pair(ONE, A)), pair(B, B)))

    def test_a_part_s_name_is_no_own_name(self):
        self.solves({("", "a"): pair(Q, ONE)}, (A, pair(Q, ONE)))
        self.solves({("", "a"): Q, ("", "b"): Q}, (pair(A, B), pair(Q, A)))

    def test_forty_words_are_the_most(self):
        # A kind's words are always odd in number: 39 is the greatest below the bound, 41 the least above.
        self.solves({("", "a"): wide(39)}, (A, wide(39)))
        self.clashes((A, wide(41)))
        self.solves({("", "a"): wide(39), ("", "b"): wide(19)}, (A, wide(21, B)), (B, wide(19)))
        self.clashes((A, wide(21, B)), (B, wide(21)))

    def test_the_bound_is_for_kinds_that_are_told(self):
        self.solves({}, (wide(41), wide(41)))
        self.solves({("", "a"): wide(39)}, (wide(39, A), wide(39, wide(39))))

    def test_kinds_that_double_again_and_again(self):
        # Written out, these kinds would have more words than can be walked.
        names = [own("a" + letter) for letter in "abcdefghijklmnopqrstuvwxyz"]
        others = [own("b" + letter) for letter in "abcdefghijklmnopqrstuvwxyz"]
        pairs = [(names[0], others[0])]
        for place in range(25):
            pairs.append((names[place], pair(names[place + 1], names[place + 1])))
            pairs.append((others[place], pair(others[place + 1], others[place + 1])))
        for order in (pairs, pairs[::-1]):
            with self.assertRaises(Clash):
                solved(order)

    def test_long_chains(self):
        names = [own(first + second) for first in "abcdefgh" for second in "abcdefghijklmnop"]
        equal = [(one, other) for one, other in zip(names, names[1:])]
        self.assertEqual(set(solved(equal).values()), {names[0]})
        self.assertEqual(set(solved(equal + [(names[60], TWO)]).values()), {TWO})
        with self.assertRaises(Clash):
            solved([(one, pair(ONE, other)) for one, other in zip(names, names[1:])])

    def test_what_is_handed_in_stays_and_what_is_told_is_new(self):
        pairs = [(A, pair(B, B)), (B, TWO)]
        solved(pairs).clear()
        self.assertEqual(pairs, [(A, pair(B, B)), (B, TWO)])
        self.assertEqual(len(solved(pairs)), 2)

    def test_the_same_as_one_pair_after_the_other(self):
        source = random.Random(17)
        told_of = 0
        for each in range(3000):
            pairs = [(some_kind(source, 2), some_kind(source, 2)) for count in range(source.randrange(1, 4))]
            due = one_after_the_other(pairs)
            if due is None:
                with self.assertRaises(Clash):
                    solved(pairs)
                continue
            told = solved(pairs)
            told_of += len(told) > 1
            self.assertEqual(told, due)
            for one, other in pairs:
                self.assertEqual(put(one, told), put(other, told))
            for kind in told.values():
                self.assertFalse(set(names_in(kind)) & set(told))
        self.assertGreater(told_of, 200)


def some_kind(source, depth):
    if depth and source.random() < 0.5:
        return pair(some_kind(source, depth - 1), some_kind(source, depth - 1))
    return source.choice((A, B, C, D) * 5 + (ONE, TWO, Q))


def one_after_the_other(pairs):
    """The same dict, found by the plainest way: each name put in everywhere as soon as it is found; None for Clash."""
    told = {}
    left = list(pairs)
    while left:
        one, other = [put(kind, told) for kind in left.pop(0)]
        if one == other:
            continue
        if one[0] == other[0] == "pair":
            left.extend(zip(one[1:], other[1:]))
            continue
        names = [kind for kind in (one, other) if kind[:2] == ("name", "")]
        if not names:
            return None
        name = max(names)
        kind = other if name == one else one
        if name[1:] in names_in(kind):
            return None
        told = {key: put(value, {name[1:]: kind}) for key, value in told.items()}
        told[name[1:]] = kind
    return None if any(words_in(kind) > 40 for kind in told.values()) else told


class JoinedTest(unittest.TestCase):
    def same(self, one, kinds, funs):
        self.assertEqual(list(one.kinds.items()), list(kinds.items()))
        self.assertEqual(list(one.funs.items()), list(funs.items()))

    def clashes(self, one, other):
        for first, second in ((one, other), (other, one)):
            with self.assertRaises(Clash):
                joined(first, second)

    def test_words_of_both_in_their_order(self):
        one = face("(hid d) (hid b) (fun g (d) b)")
        other = face("(hid c) (hid b) (told a (pair b c)) (fun f () c) (fun e () b)")
        self.same(joined(one, other), {"d": D, "b": B, "c": C, "a": pair(B, C)},
                  {"g": ((D,), B), "f": ((), C), "e": ((), B)})
        self.same(joined(other, one), {"c": C, "b": B, "a": pair(B, C), "d": D},
                  {"f": ((), C), "e": ((), B), "g": ((D,), B)})

    def test_a_word_that_both_tell(self):
        one = face("(hid a) (hid b) (told c (pair a b)) (fun f (a) c)")
        other = face("(told c (pair (num 1) (num 2)))")
        both = pair(ONE, TWO)
        self.same(joined(one, other), {"a": ONE, "b": TWO, "c": both}, {"f": ((ONE,), both)})
        self.same(joined(face("(hid a)"), face("(told a (num 2)) (fun f () a)")), {"a": TWO}, {"f": ((), TWO)})
        self.same(joined(face("(told a (num 2))"), face("(hid a) (fun f () a)")), {"a": TWO}, {"f": ((), TWO)})
        self.clashes(face("(told a (num 1))"), face("(told a (num 2))"))
        self.clashes(face("(hid b) (told a (pair b b))"), face("(told a (pair (num 1) (num 2)))"))
        self.clashes(face("(hid a) (told b (pair a (num 1)))"), face("(hid b) (told a b)"))

    def test_a_function_that_both_tell(self):
        one = face("(hid a) (hid b) (fun f (a) b)")
        other = face("(hid c) (fun f ((num 1)) (pair c c)) (fun g (c) c)")
        self.same(joined(one, other), {"a": ONE, "b": pair(C, C), "c": C}, {"f": ((ONE,), pair(C, C)), "g": ((C,), C)})
        self.clashes(face("(fun f ((num 1)) (num 1))"), face("(fun f ((num 2)) (num 1))"))
        self.clashes(face("(fun f () (num 1))"), face("(fun f () (num 2))"))

    def test_another_number_of_arguments(self):
        self.clashes(face("(hid a) (fun f (a) a)"), face("(hid a) (fun f (a a) a)"))
        self.clashes(face("(fun f () (num 1))"), face("(fun f ((num 1)) (num 1))"))

    def test_a_kind_and_a_function_of_one_word(self):
        self.same(joined(face("(told a (num 1))"), face("(fun a () (num 2))")), {"a": ONE}, {"a": ((), TWO)})

    def test_hidden_kinds_that_are_found_one(self):
        one = face("(hid a) (hid b) (fun f () a) (fun g () b)")
        other = face("(hid c) (fun f () c) (fun g () c)")
        for made in (joined(one, other), joined(other, one)):
            self.assertEqual(least(made), ((("a", A), ("b", A), ("c", A)), (("f", (), A), ("g", (), A))))
            self.assertEqual(len(made.hidden()), 1)

    def test_kinds_of_parts(self):
        one = Face({"a": A, "b": Q}, {"f": ((A,), A)})
        self.same(joined(one, Face({"a": Q}, {})), {"a": Q, "b": Q}, {"f": ((Q,), Q)})
        self.clashes(one, Face({"b": far("q", "b")}, {}))
        self.clashes(one, Face({"b": TWO}, {}))

    def test_forty_words_in_a_kind(self):
        one = Face({"a": A, "b": pair(A, ONE)}, {})
        self.assertEqual(joined(one, Face({"a": wide(37)}, {})).kinds["b"], pair(wide(37), ONE))
        self.clashes(one, Face({"a": wide(39)}, {}))
        self.clashes(Face({"a": A}, {}), Face({"a": wide(41)}, {}))
        self.clashes(Face({}, {}), Face({"a": wide(41)}, {}))

    def test_forty_words_in_a_function_s_kind(self):
        for fun in (((pair(A, ONE),), ONE), ((), pair(A, ONE))):
            one = Face({"a": A}, {"f": fun})
            self.assertEqual(joined(one, Face({"a": wide(37)}, {})).kinds["a"], wide(37))
            self.clashes(one, Face({"a": wide(39)}, {}))

    def test_a_face_joined_with_itself(self):
        one = face("(hid b) (told c (pair b (num 1))) (hid a) (told d a) (fun f (a b) c) (fun a () d)")
        made = joined(one, one)
        self.same(made, one.kinds, one.funs)
        made.kinds.clear()
        made.funs.clear()
        self.assertEqual(list(one.kinds), ["b", "c", "a", "d"])
        self.assertEqual(list(one.funs), ["f", "a"])

    def test_with_the_empty_face(self):
        one = face("(hid b) (fun f (b) b)")
        self.same(joined(one, Face({}, {})), one.kinds, one.funs)
        self.same(joined(Face({}, {}), one), one.kinds, one.funs)

    def test_both_faces_stay(self):
        one, other = face("(hid a) (hid b) (fun f () a)"), face("(told b (num 2)) (hid c) (fun f () c)")
        joined(one, other)
        self.same(one, {"a": A, "b": B}, {"f": ((), A)})
        self.same(other, {"b": TWO, "c": C}, {"f": ((), C)})

    def test_fit_by_just_what_fits_both(self):
        source = random.Random(18)
        had = list(plain_faces())
        joins = clashes = fits = 0
        for each in range(150):
            one, other = some_face(source), some_face(source)
            both = [plain for plain in had if under(plain, one) and under(plain, other)]
            try:
                made = joined(one, other)
            except Clash:
                clashes += 1
                self.assertEqual(both, [])
                continue
            joins += 1
            fits += len(both) > 0
            self.assertEqual([plain for plain in had if under(plain, made)], both)
            for word, kind in made.kinds.items():
                for part, name in names_in(kind):
                    self.assertEqual(made.kinds[name], own(name))
        self.assertGreater(joins, 20)
        self.assertGreater(clashes, 20)
        self.assertGreater(fits, 10)


def some_face(source):
    """A face of some of the words a, b, c, and perhaps of the function f."""
    words = source.sample("abc", source.randrange(1, 4))
    items = []
    for place, word in enumerate(words):
        told = ["(num 1)", "(num 2)", "(pair (num 1) (num 1))"]
        told += words[:place] * 2 + [f"(pair {one} {source.choice([one, '(num 1)'])})" for one in words[:place]]
        items.append(f"(told {word} {source.choice(told)})" if source.random() < 0.4 else f"(hid {word})")
    kinds = words + ["(num 1)"]
    if source.random() < 0.7:
        items.append(f"(fun f ({source.choice(kinds)}) {source.choice(kinds)})")
    return face(" ".join(items))


def plain_faces():
    """Faces without hidden kinds, of the words a, b, c and the function f."""
    some = (ONE, TWO, pair(ONE, ONE), pair(pair(ONE, ONE), ONE))
    for kinds in itertools.product(some, repeat=3):
        for fun in itertools.product(some, repeat=2):
            yield Face(dict(zip("abc", kinds)), {"f": ((fun[0],), fun[1])})


if __name__ == "__main__":
    unittest.main()

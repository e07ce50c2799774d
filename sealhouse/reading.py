"""Reading: names, numbers, kinds, expressions and declarations, from trees and texts."""

from sealhouse.errors import NoForm
from sealhouse.trees import trees_of

LETTERS = "abcdefghijklmnopqrstuvwxyz"
FIGURES = "0123456789"
NO_NAMES = ("num", "pair", "lit", "as", "if", "let", "two", "first", "second")
LONGEST_NAME = 12
LONGEST_NUMBER = 19
# 10 ** 18, as a plain value.
GREATEST = 1000000000000000000
MOST_ARGUMENTS = 4
OPERATORS = ("+", "-", "*")
TESTS = ("=", "<")
# The forms that have nothing but expressions behind their word, and how many.
BRANCHES = {"if": 3, "two": 2, "first": 1, "second": 1}


def is_name(word):
    """Whether a text is a name."""
    fits = 1 <= len(word) <= LONGEST_NAME and word not in NO_NAMES
    return fits and all([sign in LETTERS for sign in word])


def is_number(word):
    """Whether a text is a number as numbers are written."""
    if not 1 <= len(word) <= LONGEST_NUMBER:
        return False
    if word[0] == "0" and word != "0":
        return False
    return all([sign in FIGURES for sign in word])


def read_kind(text):
    """The kind that a text of one tree tells."""
    return kind_of_tree(single(trees_of(text)))


def read_expression(text):
    """The expression that a text of one tree tells."""
    return expression_of_tree(single(trees_of(text)))


def read_house(text):
    """The list of declarations that a text tells."""
    return [declaration_of_tree(tree) for tree in trees_of(text)]


def single(trees):
    """The one tree of a list of just one."""
    if len(trees) != 1:
        count = len(trees)
        raise NoForm(f"one tree is asked for, not {count}")
    return trees[0]


def bracket(tree, least, most):
    """The tree itself, where it is a bracket of so many trees; no bound above where most is None."""
    if not isinstance(tree, tuple):
        raise NoForm(f"a bracket is asked for, not {tree!r}")
    if len(tree) < least or (most is not None and len(tree) > most):
        raise NoForm(f"too few or too many in {tree!r}")
    return tree


def word_ahead(tree):
    """The word that a bracket begins with."""
    ahead = bracket(tree, 1, None)[0]
    if not isinstance(ahead, str):
        raise NoForm(f"no word stands first in {tree!r}")
    return ahead


def name_of_tree(tree):
    """The name that a tree is."""
    if not isinstance(tree, str) or not is_name(tree):
        raise NoForm(f"no name: {tree!r}")
    return tree


def number_of_tree(tree, least, most):
    """The whole number that a tree is, where it lies within these bounds."""
    if not isinstance(tree, str) or not is_number(tree):
        raise NoForm(f"no number: {tree!r}")
    number = int(tree)
    if number < least or number > most:
        raise NoForm(f"not from {least} to {most}: {tree}")
    return number


def size_of_tree(tree):
    """The N of a num."""
    return number_of_tree(tree, 1, GREATEST)


def near_or_far(word):
    """A name t as ("", t), a far name q.t as (q, t)."""
    if is_name(word):
        return ("", word)
    names = word.split(".")
    if len(names) != 2 or not is_name(names[0]) or not is_name(names[1]):
        raise NoForm(f"no name and no far name: {word!r}")
    return (names[0], names[1])


def kind_of_tree(tree):
    """The kind that a tree tells."""
    if isinstance(tree, str):
        return ("name",) + near_or_far(tree)
    ahead = word_ahead(tree)
    if ahead == "num":
        bracket(tree, 2, 2)
        return ("num", size_of_tree(tree[1]))
    if ahead == "pair":
        bracket(tree, 3, 3)
        return ("pair", kind_of_tree(tree[1]), kind_of_tree(tree[2]))
    raise NoForm(f"no kind: {tree!r}")


def expression_of_tree(tree):
    """The expression that a tree tells."""
    if isinstance(tree, str):
        return ("var", name_of_tree(tree))
    ahead = word_ahead(tree)
    if ahead == "lit":
        return literal_of_tree(tree)
    if ahead in OPERATORS:
        bracket(tree, 4, 4)
        return ("op", ahead, size_of_tree(tree[1])) + expressions_of(tree[2:])
    if ahead in TESTS:
        bracket(tree, 3, 3)
        return ("test", ahead) + expressions_of(tree[1:])
    if ahead == "as":
        bracket(tree, 3, 3)
        return ("as", size_of_tree(tree[1]), expression_of_tree(tree[2]))
    if ahead == "let":
        bracket(tree, 4, 4)
        return ("let", name_of_tree(tree[1])) + expressions_of(tree[2:])
    if ahead in BRANCHES:
        count = BRANCHES[ahead]
        bracket(tree, 1 + count, 1 + count)
        return (ahead,) + expressions_of(tree[1:])
    return call_of_tree(tree)


def expressions_of(trees):
    """A tuple of the expressions that trees tell."""
    return tuple([expression_of_tree(tree) for tree in trees])


def literal_of_tree(tree):
    """The literal that `(lit V N)` tells."""
    bracket(tree, 3, 3)
    size = size_of_tree(tree[2])
    return ("lit", number_of_tree(tree[1], 0, size - 1), size)


def call_of_tree(tree):
    """The call that a bracket tells which begins with a name or a far name."""
    called = near_or_far(word_ahead(tree))
    bracket(tree, 1, 1 + MOST_ARGUMENTS)
    return ("call",) + called + (expressions_of(tree[1:]),)


def declaration_of_tree(tree):
    """The declaration that a tree tells."""
    ahead = word_ahead(tree)
    if ahead == "face":
        return face_of_tree(tree)
    if ahead == "part":
        return part_of_tree(tree)
    if ahead == "maker":
        return maker_of_tree(tree)
    if ahead == "made":
        return made_of_tree(tree)
    raise NoForm(f"no declaration: {tree!r}")


def face_of_tree(tree):
    """A face's declaration."""
    bracket(tree, 2, None)
    return ("face", name_of_tree(tree[1]), tuple([face_item(item) for item in tree[2:]]))


def part_of_tree(tree):
    """A part's declaration."""
    bracket(tree, 3, None)
    return ("part", name_of_tree(tree[1]), seal_of_tree(tree[2]), part_items(tree[3:]))


def maker_of_tree(tree):
    """A maker's declaration."""
    bracket(tree, 4, None)
    formals = tuple([formal_of_tree(formal) for formal in bracket(tree[2], 1, MOST_ARGUMENTS)])
    return ("maker", name_of_tree(tree[1]), formals, seal_of_tree(tree[3]), part_items(tree[4:]))


def made_of_tree(tree):
    """A made part's declaration."""
    bracket(tree, 4, None)
    parts = tuple([name_of_tree(part) for part in tree[3:]])
    return ("made", name_of_tree(tree[1]), name_of_tree(tree[2]), parts)


def formal_of_tree(tree):
    """A maker's formal, `(x F (t K) ..)`: a name, and behind it what stands in a seal's bracket."""
    bracket(tree, 2, None)
    return (name_of_tree(tree[0]), refining_of(tree[1:]))


def seal_of_tree(tree):
    """A seal: None for `bare`, else a face's word and the kinds told with it."""
    if tree == "bare":
        return None
    return refining_of(bracket(tree, 1, None))


def refining_of(trees):
    """A face's word and its withs, from the trees `F (t K) ..`."""
    return (name_of_tree(trees[0]), named_kinds(trees[1:]))


def named_kinds(trees):
    """A tuple of tuples (name, kind), from trees `(x K)`."""
    named = []
    for tree in trees:
        bracket(tree, 2, 2)
        named.append((name_of_tree(tree[0]), kind_of_tree(tree[1])))
    return tuple(named)


def face_item(tree):
    """An item of a face."""
    ahead = word_ahead(tree)
    if ahead == "hid":
        bracket(tree, 2, 2)
        return ("hid", name_of_tree(tree[1]))
    if ahead == "told":
        bracket(tree, 3, 3)
        return ("told", name_of_tree(tree[1]), kind_of_tree(tree[2]))
    if ahead == "fun":
        bracket(tree, 4, 4)
        kinds = tuple([kind_of_tree(kind) for kind in bracket(tree[2], 0, MOST_ARGUMENTS)])
        return ("fun", name_of_tree(tree[1]), kinds, kind_of_tree(tree[3]))
    raise NoForm(f"no item of a face: {tree!r}")


def part_items(trees):
    """A tuple of the items of a part or a maker."""
    return tuple([part_item(tree) for tree in trees])


def part_item(tree):
    """An item of a part or a maker."""
    ahead = word_ahead(tree)
    if ahead == "kind":
        bracket(tree, 3, 3)
        return ("kind", name_of_tree(tree[1]), kind_of_tree(tree[2]))
    if ahead == "open":
        bracket(tree, 2, 2)
        return ("open", name_of_tree(tree[1]))
    if ahead == "fun":
        bracket(tree, 5, 5)
        params = named_kinds(bracket(tree[2], 0, MOST_ARGUMENTS))
        return ("fun", name_of_tree(tree[1]), params, kind_of_tree(tree[3]), expression_of_tree(tree[4]))
    raise NoForm(f"no item of a part: {tree!r}")

"""Writing: the texts of kinds, expressions and houses."""

from sealhouse.expressions import within
from sealhouse.trees import text_of


def kind_text(kind):
    """The text of a kind."""
    return text_of([kind_tree(kind)])


def expression_text(expression):
    """The text of an expression."""
    return text_of([expression_tree(expression)])


def house_text(house):
    """The text of a house."""
    return text_of([declaration_tree(declaration) for declaration in house])


def near_or_far_word(part, name):
    """A name as it is written, with its part's word where it has one."""
    if part == "":
        return name
    return f"{part}.{name}"


def kind_tree(kind):
    """The tree of a kind."""
    if kind[0] == "num":
        return ("num", str(kind[1]))
    if kind[0] == "pair":
        return ("pair", kind_tree(kind[1]), kind_tree(kind[2]))
    return near_or_far_word(kind[1], kind[2])


def expression_tree(expression):
    """The tree of an expression."""
    if expression[0] == "var":
        return expression[1]
    trees = list(words_ahead(expression))
    for inner in within(expression):
        trees.append(expression_tree(inner))
    return tuple(trees)


def words_ahead(expression):
    """The words that stand in an expression's bracket ahead of the expressions in it."""
    form = expression[0]
    if form == "lit":
        return ("lit", str(expression[1]), str(expression[2]))
    if form == "op":
        return (expression[1], str(expression[2]))
    if form == "test":
        return (expression[1],)
    if form == "as":
        return ("as", str(expression[1]))
    if form == "let":
        return ("let", expression[1])
    if form == "call":
        return (near_or_far_word(expression[1], expression[2]),)
    return (form,)


def declaration_tree(declaration):
    """The tree of a declaration."""
    form = declaration[0]
    name = declaration[1]
    if form == "face":
        return ("face", name) + tuple([face_item_tree(item) for item in declaration[2]])
    if form == "part":
        return ("part", name, seal_tree(declaration[2])) + part_item_trees(declaration[3])
    if form == "maker":
        formals = tuple([(formal[0],) + seal_tree(formal[1]) for formal in declaration[2]])
        return ("maker", name, formals, seal_tree(declaration[3])) + part_item_trees(declaration[4])
    return ("made", name, declaration[2]) + declaration[3]


def seal_tree(seal):
    """The tree of a seal."""
    if seal is None:
        return "bare"
    return (seal[0],) + named_trees(seal[1])


def named_trees(named):
    """A tuple of trees `(x K)`, of tuples (name, kind)."""
    return tuple([(name, kind_tree(kind)) for name, kind in named])


def face_item_tree(item):
    """The tree of an item of a face."""
    if item[0] == "hid":
        return item
    if item[0] == "told":
        return ("told", item[1], kind_tree(item[2]))
    return ("fun", item[1], tuple([kind_tree(kind) for kind in item[2]]), kind_tree(item[3]))


def part_item_trees(items):
    """A tuple of the trees of a part's or a maker's items."""
    return tuple([part_item_tree(item) for item in items])


def part_item_tree(item):
    """The tree of an item of a part or a maker."""
    if item[0] == "kind":
        return ("kind", item[1], kind_tree(item[2]))
    if item[0] == "open":
        return item
    return ("fun", item[1], named_trees(item[2]), kind_tree(item[3]), expression_tree(item[4]))

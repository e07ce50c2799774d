"""Bodies: the kinds of expressions, and the functions within a part."""

from sealhouse.errors import NoCount, NoName, Twice, WrongKind
from sealhouse.expressions import within
from sealhouse.faces import Face
from sealhouse.kinds import bounded, normal
from sealhouse.parts import take_item


def kind_in(expression, variables, called, most=40):
    """The kind of an expression, by its variables' kinds {x: kind} and what called(q, f) tells of functions."""
    form = expression[0]
    if form == "var":
        return variable_kind(expression[1], variables)
    if form == "let":
        inner = dict(variables)
        inner[expression[1]] = kind_in(expression[2], variables, called, most)
        return kind_in(expression[3], inner, called, most)
    kinds = []
    for each in within(expression):
        kinds.append(kind_in(each, variables, called, most))
    if form == "call":
        return answer_kind(expression[2], called(expression[1], expression[2]), kinds)
    if form == "two":
        return bounded(("pair", kinds[0], kinds[1]), most)
    return kind_by_form(expression, kinds)


def variable_kind(word, variables):
    """The kind of a variable."""
    if word not in variables:
        raise NoName(f"no variable {word}")
    return variables[word]


def answer_kind(word, told, kinds):
    """The kind of a call with arguments of these kinds, told being the function's (kinds, kind)."""
    if len(told[0]) != len(kinds):
        due = len(told[0])
        found = len(kinds)
        raise NoCount(f"{word} takes {due} arguments, not {found}")
    for due, found in zip(told[0], kinds):
        demand(due == found, f"an argument of {word}")
    return told[1]


def kind_by_form(expression, kinds):
    """The kind of an expression that has its kind by its form and by the kinds right within it."""
    form = expression[0]
    if form == "lit":
        return ("num", expression[2])
    if form == "op":
        due = ("num", expression[2])
        demand(kinds == [due, due], "a side of what is reckoned")
        return due
    if form == "test":
        demand(kinds[0][0] == "num" and kinds[0] == kinds[1], "a side of what is compared")
        return ("num", 2)
    if form == "as":
        demand(kinds[0][0] == "num", "what is taken as a num")
        return ("num", expression[1])
    if form == "if":
        demand(kinds[0] == ("num", 2), "what an if asks")
        demand(kinds[1] == kinds[2], "a branch of an if")
        return kinds[1]
    demand(kinds[0][0] == "pair", f"what {form} is taken of")
    return kinds[0][1] if form == "first" else kinds[0][2]


def demand(does, what):
    """Refuses a kind that doesn't do."""
    if not does:
        raise WrongKind(f"{what} is of another kind than is due")


def look_within(items, parts):
    """Looks at the functions of a part's items, whose full Face stands; parts being a dict {q: Face}."""
    ahead = Face({}, {})
    for item in items:
        if item[0] == "fun":
            look_at_fun(item, ahead, parts)
        take_item(ahead, item, parts)


def look_at_fun(item, ahead, parts):
    """Looks at one function, by the Face of the items ahead of it."""
    def called(part, word):
        return told_fun(part, word, ahead.funs, parts)

    params = [(word, normal(kind, ahead.kinds, parts)) for word, kind in item[2]]
    look_at_body(params, normal(item[3], ahead.kinds, parts), item[4], called)


def look_at_body(params, kind, expression, called, most=40):
    """Looks whether an expression has that kind, where params, tuples (x, kind), are its variables."""
    variables = {}
    for word, its in params:
        if word in variables:
            raise Twice(f"the param {word} stands twice")
        variables[word] = its
    demand(kind_in(expression, variables, called, most) == kind, "a function's expression")


def told_fun(part, word, own, parts):
    """What is told of a function: of an own one by a dict, of a known part's by that part's Face."""
    if part == "":
        funs = own
    elif part in parts:
        funs = parts[part].funs
    else:
        raise NoName(f"no part {part}, so no function {part}.{word}")
    if word not in funs:
        raise NoName(f"no function {word!r} of {part!r}")
    return funs[word]

"""Plain programs: looked at, and their weights and depths."""

from sealhouse.bodies import look_at_body
from sealhouse.errors import NoName, TooHeavy, Twice
from sealhouse.expressions import within

MOST_WORDS = 8000
MOST_WEIGHT = 600
MOST_DEPTH = 40


def plain_look(program):
    """What is told of a plain program's functions, {(p, f): (kinds, kind)}, where it is let by."""
    told = {}

    def called(part, word):
        if (part, word) not in told:
            raise NoName(f"no function {word!r} of {part!r} ahead")
        return told[(part, word)]

    for name, params, kind, expression in program:
        if name in told:
            raise Twice(f"the function {name!r} stands twice")
        look_at_body(params, kind, expression, called, MOST_WORDS)
        told[name] = (tuple([its for word, its in params]), kind)
    return told


def weights(program):
    """The weights and depths of a plain program's functions, {(p, f): (weight, depth)}."""
    reckoned = {}
    for name, params, kind, expression in program:
        weight, depth = weight_and_depth(expression, reckoned)
        if weight > MOST_WEIGHT or depth > MOST_DEPTH:
            raise TooHeavy(f"the function {name!r} has the weight {weight} and the depth {depth}")
        reckoned[name] = (weight, depth)
    return reckoned


def weight_and_depth(expression, reckoned):
    """The weight and the depth of an expression, by those of the functions that it may call."""
    parts = []
    for each in within(expression):
        parts.append(weight_and_depth(each, reckoned))
    if expression[0] == "call":
        parts.append(reckoned[(expression[1], expression[2])])
    weight = 1 + sum([each[0] for each in parts])
    depth = 1 + max([each[1] for each in parts], default=0)
    return (weight, depth)

"""The runner: the values of expressions, and runs of plain programs."""

from sealhouse.errors import NoName
from sealhouse.expressions import within


def value_of(expression, variables, call):
    """The value of an expression, by its variables' values {x: value} and a function call(q, f, values)."""
    form = expression[0]
    if form == "lit":
        return expression[1]
    if form == "var":
        return variable_value(expression[1], variables)
    if form == "if":
        asked = value_of(expression[1], variables, call)
        return value_of(expression[2] if asked == 1 else expression[3], variables, call)
    if form == "let":
        inner = dict(variables)
        inner[expression[1]] = value_of(expression[2], variables, call)
        return value_of(expression[3], inner, call)
    values = []
    for each in within(expression):
        values.append(value_of(each, variables, call))
    if form == "call":
        return call(expression[1], expression[2], values)
    return value_by_form(expression, values)


def variable_value(word, variables):
    """The value of a variable."""
    if word not in variables:
        raise NoName(f"no variable {word}")
    return variables[word]


def value_by_form(expression, values):
    """The value of an expression that has it by its form and by the values right within it."""
    form = expression[0]
    if form == "op":
        return reckoned(expression[1], values[0], values[1]) % expression[2]
    if form == "test":
        return compared_values(expression[1], values[0], values[1])
    if form == "as":
        return values[0] % expression[1]
    if form == "two":
        return (values[0], values[1])
    return values[0][0] if form == "first" else values[0][1]


def reckoned(sign, one, other):
    """What is reckoned of two whole numbers."""
    if sign == "+":
        return one + other
    if sign == "-":
        return one - other
    return one * other


def compared_values(sign, one, other):
    """1 where two whole numbers compare as the sign tells, else 0."""
    does = one == other if sign == "=" else one < other
    return 1 if does else 0


class Functions:
    """The functions of a plain program that is let by."""

    def __init__(self, program):
        self.bodies = {}
        for name, params, kind, expression in program:
            self.bodies[name] = ([word for word, its in params], expression)

    def answer_of(self, part, word, values):
        """The answer of a function."""
        if (part, word) not in self.bodies:
            raise NoName(f"no function {word!r} of {part!r}")
        words, expression = self.bodies[(part, word)]
        return self.value_by_these(expression, dict(zip(words, values)))

    def value_by_these(self, expression, variables):
        """The value of an expression that calls these functions."""
        def call(part, word, values):
            return self.answer_of(part, word, values)

        return value_of(expression, variables, call)


def run(program, expression):
    """The value of a use, by a plain program."""
    return Functions(program).value_by_these(expression, {})


def ask(program, p, f, values):
    """The answer of a plain program's function."""
    return Functions(program).answer_of(p, f, values)

"""Expressions: what stands right within one, the same with others within, and what is called."""

# How many things stand ahead of the expressions right within one of these forms.
AHEAD = {"op": 3, "test": 2, "as": 2, "let": 2, "if": 1, "two": 1, "first": 1, "second": 1}


def within(expression):
    """The expressions right within one, in their order."""
    form = expression[0]
    if form in ("lit", "var"):
        return ()
    if form == "call":
        return expression[3]
    return expression[AHEAD[form]:]


def rebuilt(expression, inner):
    """The expression with others, as many, in the place of those right within it."""
    form = expression[0]
    if form in ("lit", "var"):
        return expression
    if form == "call":
        return expression[:3] + (tuple(inner),)
    return expression[:AHEAD[form]] + tuple(inner)


def calls_in(expression):
    """The functions that are called anywhere in an expression, as tuples (q, f), each once."""
    met = {}
    left = [expression]
    while len(left) > 0:
        here = left.pop()
        if here[0] == "call":
            met[(here[1], here[2])] = True
        left.extend(within(here))
    return list(met)


def variables_in(expression):
    """The variables that stand anywhere in an expression, each once."""
    met = {}
    left = [expression]
    while len(left) > 0:
        here = left.pop()
        if here[0] == "var":
            met[here[1]] = True
        left.extend(within(here))
    return list(met)

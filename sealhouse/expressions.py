"""Expressions: what stands right within one, and an expression with other ones within."""

# How many things stand ahead of the expressions right within one of these forms.
AHEAD = {"op": 3, "test": 2, "as": 2, "let": 2, "if": 1, "two": 1, "first": 1, "second": 1}


def within(expression):
    """The expressions right within one, in their order."""
    form = expression[0]
    if form in ("lit", "var"):
        return ()
    if form == "call":
        return expression[3]
    return expression[AHEAD[form]:]

"""Running: a house run as it stands, each call of another part a crossing of which a row is kept."""

from sealhouse.bodies import told_fun
from sealhouse.crossing import Crossing
from sealhouse.errors import NoName
from sealhouse.looker import look
from sealhouse.plans import Plan
from sealhouse.runner import value_of


class House:
    """A house that is let by and links without refusal, and the rows (p, f, values, answer) of its crossings."""

    def __init__(self, house, crossing=None):
        self.plan = Plan(house)
        self.seen = look(house)
        self.crossing = Crossing() if crossing is None else crossing
        self.rows = []

    def ask(self, p, f, values):
        """The answer of a call from outside, values being as they are outside."""
        self.begin_rows()
        return self.call_from_outside(p, f, values)

    def run(self, expression):
        """The value of a use."""
        def call(part, word, values):
            return self.call_from_outside(part, word, values)

        self.begin_rows()
        return value_of(expression, {}, call)

    def begin_rows(self):
        """Goes on with a new list of rows, so that one that was read already stays as it was."""
        self.rows = list(self.rows)

    def call_from_outside(self, part, word, values):
        """The answer of a function that a seen face tells."""
        told_fun(part, word, {}, self.seen.parts)
        return self.cross(part, word, values)

    def cross(self, part, word, values):
        """The answer of a part's function as the caller gets it, who is another part or outside."""
        kinds, kind = self.seen.parts[part].funs[word]
        inside = []
        for taken, value in zip(kinds, values):
            inside.append(self.crossing.inward(part, taken, value))
        answer = self.crossing.outward(part, kind, self.call_within(part, word, inside))
        self.rows.append((part, word, tuple(values), answer))
        return answer

    def call_within(self, part, word, values):
        """The answer of a part's own function, or of one that it opens, called within the part."""
        for item in self.plan.items_of(part):
            if item[0] == "fun" and item[1] == word:
                return self.body_value(part, item, values)
            if item[0] == "open" and word in self.plan.brought(part, item[1], self.seen).funs:
                return self.cross(self.plan.owner(part, item[1]), word, values)
        raise NoName(f"no function {word!r} within {part!r}")

    def body_value(self, part, item, values):
        """The value of a function's expression, item being the function as it stands in a part's items."""
        def call(ahead, word, handed):
            if ahead == "":
                return self.call_within(part, word, handed)
            return self.cross(self.plan.owner(part, ahead), word, handed)

        variables = dict(zip([name for name, kind in item[2]], values))
        return value_of(item[4], variables, call)

"""Ways: kinds written out in single steps, each by one declaration."""

from sealhouse.kinds import names_in, put
from sealhouse.looker import look
from sealhouse.plans import Plan


class Steps:
    """The single steps in a house that is let by."""

    def __init__(self, house):
        self.plan = Plan(house)
        self.seen = look(house)

    def step_of(self, part, word):
        """What a part's kind is written out to in one step, or None where it is hidden."""
        seal = self.plan.seal_of(part)
        if seal is None:
            kind = self.by_items(part, word)
        else:
            kind = self.by_seal(seal, word)
        if kind is None:
            return None
        return self.told_far(part, kind)

    def by_items(self, part, word):
        """The kind that a bare part's items tell of a word, as it stands there."""
        for item in self.plan.items_of(part):
            if item[0] == "kind" and item[1] == word:
                return item[2]
            if item[0] == "open" and word in self.plan.brought(part, item[1], self.seen).kinds:
                return ("name", item[1], word)
        return None

    def by_seal(self, seal, word):
        """The kind that a seal tells of a word, as it stands there, or None where it tells none."""
        for name, kind in seal[1]:
            if name == word:
                return kind
        for item in self.plan.face_items(seal[0]):
            if item[0] == "told" and item[1] == word:
                return item[2]
        return None

    def told_far(self, part, kind):
        """A kind that stands in what tells of a part, with far names alone."""
        given = {}
        for ahead, word in names_in(kind):
            given[(ahead, word)] = ("name", self.plan.owner(part, ahead), word)
        return put(kind, given)

    def further(self, kind):
        """A kind with its first name that isn't hidden written out in one step, or None where there is none."""
        if kind[0] == "name":
            return self.step_of(kind[1], kind[2])
        if kind[0] == "num":
            return None
        first = self.further(kind[1])
        if first is not None:
            return ("pair", first, kind[2])
        second = self.further(kind[2])
        if second is not None:
            return ("pair", kind[1], second)
        return None

    def trail_of(self, part, word):
        """The kinds from a name on, step by step, until all names are hidden."""
        kinds = []
        kind = ("name", part, word)
        while kind is not None:
            kinds.append(kind)
            kind = self.further(kind)
        return kinds


def step(house, q, t):
    """The kind that q.t is written out to in one step, or None where it is hidden."""
    return Steps(house).step_of(q, t)


def trail(house, q, t):
    """The kinds from q.t on, step by step, until all names are hidden."""
    return Steps(house).trail_of(q, t)


def way(house, one, other):
    """The kinds that lead from one kind word (q, t) to another, or None."""
    steps = Steps(house)
    there = steps.trail_of(one[0], one[1])
    back = steps.trail_of(other[0], other[1])
    if there[-1] != back[-1]:
        return None
    return there + list(reversed(back[:-1]))

"""Crossings: what becomes of values that go into a part and out of it."""

from sealhouse.errors import NoMark


class Crossing:
    """A plain crossing, which leaves all values as they are."""

    def inward(self, part, kind, value):
        """What goes into a part where that value of that kind is handed in."""
        return value

    def outward(self, part, kind, value):
        """What leaves a part where that value of that kind is its answer."""
        return value

    def bared(self, value):
        """The value without marks."""
        return value


class Marks(Crossing):
    """A crossing that keeps values of hidden kinds where they leave their part, and lets marks go out for them."""

    def __init__(self, start=1, step=1):
        self.upcoming = start
        self.stride = step
        self.kept = {}

    def inward(self, part, kind, value):
        """The value with the kept values in the place of the marks made for that part."""
        if kind[0] == "pair":
            return (self.inward(part, kind[1], value[0]), self.inward(part, kind[2], value[1]))
        if hides(part, kind):
            return self.kept_value(part, kind[2], value)
        return value

    def outward(self, part, kind, value):
        """The value with new marks in the place of what that part hides."""
        if kind[0] == "pair":
            first = self.outward(part, kind[1], value[0])
            return (first, self.outward(part, kind[2], value[1]))
        if hides(part, kind):
            return self.new_mark(part, kind[2], value)
        return value

    def bared(self, value):
        """The value with what they keep in the place of all marks, of those within what is kept, too."""
        if not isinstance(value, tuple):
            return value
        if is_mark(value):
            return self.bared(self.behind(value)[2])
        return tuple([self.bared(each) for each in value])

    def behind(self, mark):
        """What a mark was made for, and what it keeps: (part, t, value)."""
        if not is_mark(mark) or mark[1] not in self.kept:
            raise NoMark(f"no mark that was made: {mark!r}")
        return self.kept[mark[1]]

    def new_mark(self, part, word, value):
        """A new mark, which keeps a value of the kind that a part hides under that word."""
        number = self.upcoming
        self.upcoming = number + self.stride
        self.kept[number] = (part, word, value)
        return ("mark", number)

    def kept_value(self, part, word, mark):
        """What a mark keeps that was made for that part and word."""
        owner, name, value = self.behind(mark)
        if (owner, name) != (part, word):
            raise NoMark(f"{mark!r} was made for {owner}.{name}, not for {part}.{word}")
        return value


def hides(part, kind):
    """Whether a kind is one that the part hides."""
    return kind[0] == "name" and kind[1] == part


def is_mark(value):
    """Whether a value has the form of a mark."""
    return isinstance(value, tuple) and len(value) == 2 and value[0] == "mark"

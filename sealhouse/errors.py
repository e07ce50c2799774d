"""The refusals: one class each, all of them under Refused and none under another."""


class Refused(ValueError):
    """Any refusal."""


class NoTree(Refused):
    """A text whose brackets don't match, or nest too deep."""


class NoForm(Refused):
    """A tree that is none of the forms asked for."""


class NoKind(Refused):
    """A kind that isn't known, or isn't hidden where a hidden one is asked for."""


class NoName(Refused):
    """A word that stands for nothing that is known."""


class Twice(Refused):
    """A word that is told a second time."""


class TooBig(Refused):
    """A kind of more words than are allowed."""


class Clash(Refused):
    """Kinds that can't be made equal, or faces that can't be joined."""


class WrongKind(Refused):
    """An expression whose kind doesn't do where it stands."""


class NoCount(Refused):
    """Another number of arguments, or of parts, than is taken."""


class BadOrder(Refused):
    """An order in which a part stands ahead of one that it uses."""


class TooHeavy(Refused):
    """An expression of too great a weight or depth."""


class NotPlain(Refused):
    """A kind with names where a plain one is asked for."""


class NoMark(Refused):
    """What isn't a mark made for the place in which it stands."""


class TooWide(Refused):
    """More rows of tied arguments than are tried."""


class NoFit(Refused):
    """A face that doesn't fit a wanted one, and the first thing that tells so."""

    def __init__(self, part, name, due, found):
        Refused.__init__(self, f"part {part!r}, word {name!r}: wanted {due!r}, found {found!r}")
        self.part = part
        self.name = name
        self.due = due
        self.found = found

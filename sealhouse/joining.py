"""Joining: kinds made equal in the most general way, and faces joined by that."""

from sealhouse.errors import Clash, TooBig
from sealhouse.faces import Face
from sealhouse.kinds import names_in, words_in

MOST = 40


class Classes:
    """Kinds that were found one: each class has a head, which is an own name only where nothing else is in it."""

    def __init__(self):
        self.nearer = {}

    def head(self, kind):
        """The head of a kind's class."""
        while kind in self.nearer:
            kind = self.nearer[kind]
        return kind

    def make_equal(self, pairs):
        """Makes the two kinds of each pair one, and with them what must be one then, too."""
        left = list(pairs)
        while len(left) > 0:
            pair = left.pop()
            one = self.head(pair[0])
            other = self.head(pair[1])
            if one != other:
                left.extend(self.merge(one, other))

    def merge(self, one, other):
        """Makes two classes one, by their heads; gives the pairs of halves that must be equal for it."""
        if goes_behind(one, other):
            self.nearer[one] = other
            return []
        if goes_behind(other, one):
            self.nearer[other] = one
            return []
        if one[0] != "pair" or other[0] != "pair":
            raise Clash(f"{one!r} and {other!r} are never equal")
        self.nearer[one] = other
        return [(one[1], other[1]), (one[2], other[2])]

    def written_out(self, kind, depth):
        """The kind with all that was found out put in, where it is the depth-th one of kinds within one another."""
        head = self.head(kind)
        if head[0] != "pair":
            return head
        # Each pair around it is a word, so this refuses only what is too great; a kind within itself ends here, too.
        if depth > MOST:
            raise Clash("a kind is too great, or stands within itself")
        written = ("pair", self.written_out(head[1], depth + 1), self.written_out(head[2], depth + 1))
        # Refused as soon as it is too great, not at the end: kinds that double would be walked too often by then.
        if words_in(written) > MOST:
            raise Clash(f"a kind of more than {MOST} words")
        return written


def is_own(kind):
    """Whether a kind is an own name."""
    return kind[0] == "name" and kind[1] == ""


def goes_behind(kind, other):
    """Whether a kind is an own name for which the other, unlike one is to be told."""
    return is_own(kind) and (not is_own(other) or other[2] < kind[2])


def own_names(pairs):
    """The own names that stand in pairs of kinds, each once."""
    met = {}
    for pair in pairs:
        for kind in pair:
            for part, word in names_in(kind):
                if part == "":
                    met[("name", "", word)] = True
    return list(met)


def solved(pairs):
    """The most general kinds for own names, {("", t): kind}, that make the two kinds of each pair equal."""
    classes = Classes()
    classes.make_equal(pairs)
    told = {}
    for name in own_names(pairs):
        if classes.head(name) != name:
            told[("", name[2])] = classes.written_out(name, 1)
    return told


def joined(one, other):
    """The Face that is fit by just what fits both."""
    given = solved(shared_pairs(one, other))
    both = Face(with_new(one.kinds, other.kinds), with_new(one.funs, other.funs))
    try:
        return both.put(given, MOST)
    except TooBig:
        raise Clash(f"a kind of the join has more than {MOST} words") from None


def shared_pairs(one, other):
    """The pairs of kinds that must be equal since both faces tell them."""
    pairs = []
    for word, kind in one.kinds.items():
        if word in other.kinds:
            pairs.append((kind, other.kinds[word]))
    for word, fun in one.funs.items():
        if word in other.funs:
            pairs.extend(fun_pairs(word, fun, other.funs[word]))
    return pairs


def fun_pairs(word, fun, other):
    """The pairs of kinds that must be equal for two functions to be one."""
    if len(fun[0]) != len(other[0]):
        raise Clash(f"the function {word} has two numbers of arguments")
    return list(zip(fun[0], other[0])) + [(fun[1], other[1])]


def with_new(words, others):
    """A dict of the first one's words, and behind them the second one's that are new."""
    both = dict(words)
    for word in others:
        if word not in both:
            both[word] = others[word]
    return both

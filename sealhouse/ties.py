"""Ties: the least tie between the hidden values of two parts behind one face, or a use that parts them."""

from sealhouse.expressions import variables_in
from sealhouse.linker import link
from sealhouse.papers import behind_one_face, by_words, most_rows, tied_rows
from sealhouse.runner import Functions

MOST_ROWS = 64
MOST_PAIRS = 16
# A variable for each pair that may be known when a round begins.
VARIABLES = "abcdefghijklmnop"
HALVES = ("first", "second")


def tie(house, p, q):
    """("tied", rows) with the least tie, ("parted", use), or ("open",)."""
    funs = behind_one_face(house, p, q)[1]
    search = Search(funs, Functions(link(house)), p, q)
    answer = None
    while answer is None:
        answer = search.answer_of_round()
    return answer


class Search:
    """The pairs known, {(t, a, b): source}: the source is the place of an answer at which the pair was found."""

    def __init__(self, funs, functions, p, q):
        self.funs = funs
        self.functions = functions
        self.p = p
        self.q = q
        self.known = {}
        self.asked = {}

    def answer_of_round(self):
        """Goes one round, and gives the answer, or None where another round is due."""
        ahead = len(self.known)
        paper = by_words(self.known)
        if most_rows(self.funs, paper) > MOST_ROWS:
            return ("open",)
        for fun in self.funs:
            for row in tied_rows(fun[1], paper):
                parting = self.parting_at(fun, row)
                if parting is not None:
                    return ("parted", use_of(self.p, parting, self.known))
        if len(self.known) > MOST_PAIRS:
            return ("open",)
        if len(self.known) == ahead:
            return ("tied", sorted(self.known))
        return None

    def parting_at(self, fun, row):
        """Asks both functions and notes the pairs found; gives the source of two nums that are unlike, or None."""
        # Pairs once known stay known, so what was asked in an earlier round tells nothing new.
        if (fun[0], row) in self.asked:
            return None
        self.asked[(fun[0], row)] = True
        one = self.functions.answer_of(self.p, fun[0], row[0])
        other = self.functions.answer_of(self.q, fun[0], row[1])
        for kind, mine, its, path in places(fun[2], one, other):
            if kind[0] == "name":
                self.known.setdefault((kind[2], mine, its), (fun, row, path))
            elif mine != its:
                return (fun, row, path)
        return None


def places(kind, one, other):
    """The nums and hidden kinds of a kind, each with the values there and the halves that lead to it."""
    if kind[0] != "pair":
        return [(kind, one, other, ())]
    found = []
    for number, half in enumerate(HALVES):
        for inner, mine, its, path in places(kind[1 + number], one[number], other[number]):
            found.append((inner, mine, its, (half,) + path))
    return found


def use_of(part, source, known):
    """A use that calls that part's functions and has the value at a source."""
    # By lets, since a pair that stood wherever it is needed could double the use with each round.
    names = dict(zip(known, VARIABLES))
    use = expression_at(part, source, names)
    for pair, name in reversed(list(names.items())):
        if name in variables_in(use):
            use = ("let", name, expression_at(part, known[pair], names), use)
    return use


def expression_at(part, source, names):
    """The expression that asks for the value at a source, with variables in the place of the pairs that it needs."""
    fun, row, path = source
    handed = []
    for kind, one, other in zip(fun[1], row[0], row[1]):
        handed.append(argument(kind, one, other, names))
    expression = ("call", part, fun[0], tuple(handed))
    for half in path:
        expression = (half, expression)
    return expression


def argument(kind, one, other, names):
    """The expression of two tied values, of the one where p's functions are called, else of the other."""
    if kind[0] == "num":
        return ("lit", one, kind[1])
    if kind[0] == "pair":
        first = argument(kind[1], one[0], other[0], names)
        return ("two", first, argument(kind[2], one[1], other[1], names))
    return ("var", names[(kind[2], one, other)])

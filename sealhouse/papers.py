"""Papers: which hidden values of two parts behind one face are tied, and whether all answers are tied then."""

from sealhouse.errors import NoFit, NoName, NotPlain, TooWide
from sealhouse.faces import least, own_name, put_in_face
from sealhouse.kinds import names_in
from sealhouse.linker import link
from sealhouse.looker import look
from sealhouse.runner import Functions

MOST_ROWS = 400
# More than any bound: counts go no further, so that those of great nums stay small numbers.
MANY = 401


def behind_one_face(house, p, q):
    """The least form of the one face that two parts stand behind."""
    seen = look(house)
    form = own_form(seen, p)
    if own_form(seen, q) != form:
        raise NoFit(q, "", None, None)
    for word, kinds, kind in form[1]:
        for each in kinds + (kind,):
            look_at_plain(word, each)
    return form


def own_form(seen, part):
    """The least form of a part's seen face, its hidden kinds told as own ones."""
    if part not in seen.parts:
        raise NoName(f"no part {part}")
    face = seen.parts[part]
    given = {}
    for word in face.kinds:
        given[(part, word)] = own_name(word)
    return least(put_in_face(face, given))


def look_at_plain(word, kind):
    """Refuses a kind of a function that has a name with a part's word."""
    for part, name in names_in(kind):
        if part != "":
            raise NotPlain(f"the function {word} has the kind {part}.{name}")


def tied(kind, one, other, paper):
    """Whether two values are tied by a paper at a kind."""
    if kind[0] == "num":
        return one == other
    if kind[0] == "pair":
        return tied(kind[1], one[0], other[0], paper) and tied(kind[2], one[1], other[1], paper)
    return (kind[2], one, other) in paper


def fails(house, p, q, paper):
    """None where a paper holds, else a case (f, values, others) at which it fails."""
    funs = behind_one_face(house, p, q)[1]
    functions = Functions(link(house))
    known = by_words(paper)
    if most_rows(funs, known) > MOST_ROWS:
        raise TooWide(f"a function has more than {MOST_ROWS} rows of tied arguments")
    for word, kinds, kind in funs:
        for values, others in tied_rows(kinds, known):
            one = functions.answer_of(p, word, values)
            other = functions.answer_of(q, word, others)
            if not tied(kind, one, other, paper):
                return (word, values, others)
    return None


def by_words(paper):
    """The pairs of values that a paper's rows tie, each once, by the hidden kinds' words: {t: {(a, b): True}}."""
    known = {}
    for word, one, other in paper:
        pairs = known.setdefault(word, {})
        pairs[(one, other)] = True
    return known


def most_rows(funs, known):
    """The greatest number of rows of tied arguments that a function has, as far as MANY."""
    return max([row_count(kinds, known) for word, kinds, kind in funs], default=0)


def row_count(kinds, known):
    """How many rows of tied arguments there are, as far as MANY."""
    count = 1
    for kind in kinds:
        count = min(count * pair_count(kind, known), MANY)
    return count


def pair_count(kind, known):
    """How many pairs of values are tied at a kind, as far as MANY."""
    if kind[0] == "num":
        return min(kind[1], MANY)
    if kind[0] == "pair":
        return row_count(kind[1:], known)
    return len(known.get(kind[2], {}))


def tied_rows(kinds, known):
    """All rows of tied arguments, as tuples (values, others) of tuples."""
    # Where something that is tied lacks, a num beside it may have more values than could be walked.
    if row_count(kinds, known) == 0:
        return []
    rows = [((), ())]
    for kind in kinds:
        rows = longer_rows(rows, tied_pairs(kind, known))
    return rows


def longer_rows(rows, pairs):
    """Each row with each pair of values behind it."""
    longer = []
    for values, others in rows:
        for one, other in pairs:
            longer.append((values + (one,), others + (other,)))
    return longer


def tied_pairs(kind, known):
    """All pairs of values that are tied at a kind."""
    if kind[0] == "num":
        return [(number, number) for number in range(kind[1])]
    if kind[0] == "pair":
        return tied_rows(kind[1:], known)
    return list(known.get(kind[2], {}))

"""Faces: what is told of a part, which face fits which, and their least forms."""

from sealhouse.errors import NoFit, NoKind, Twice
from sealhouse.kinds import bounded, normal, put


class Face:
    """What a face tells: kinds, {t: kind}, and funs, {f: (kinds, kind)}."""

    def __init__(self, kinds, funs):
        self.kinds = dict(kinds)
        self.funs = dict(funs)

    def put(self, given, most=40):
        """A new Face in which kinds are put in for names, each kind of at most so many words."""
        result = put_in_face(self, given)
        for kind in result.kinds.values():
            bounded(kind, most)
        for taken, answer in result.funs.values():
            for kind in taken + (answer,):
                bounded(kind, most)
        return result

    def hidden(self):
        """The words of the own hidden kinds, in their order."""
        return [word for word, kind in self.kinds.items() if kind == own_name(word)]


def own_name(word):
    """The kind of an own hidden word."""
    return ("name", "", word)


def put_in_face(face, given):
    """A new Face in which kinds are put in for names, of however many words."""
    kinds = {}
    for word, kind in face.kinds.items():
        kinds[word] = put(kind, given)
    funs = {}
    for word, fun in face.funs.items():
        funs[word] = put_in_fun(fun, given)
    return Face(kinds, funs)


def put_in_fun(fun, given):
    """A function's (kinds, kind) with kinds put in for names."""
    return (tuple([put(kind, given) for kind in fun[0]]), put(fun[1], given))


def face_of(items, parts):
    """The Face that a face's items make, parts being a dict {q: Face}."""
    kinds = {}
    funs = {}
    for item in items:
        word = item[1]
        if word in (funs if item[0] == "fun" else kinds):
            raise Twice(f"the word {word} is told twice")
        if item[0] == "hid":
            kinds[word] = own_name(word)
        elif item[0] == "told":
            kinds[word] = normal(item[2], kinds, parts)
        else:
            taken = tuple([normal(kind, kinds, parts) for kind in item[2]])
            funs[word] = (taken, normal(item[3], kinds, parts))
    return Face(kinds, funs)


def refined(face, withs):
    """A new Face in which own hidden kinds are exchanged for those of the withs, one behind the other."""
    result = Face(face.kinds, face.funs)
    for word, kind in withs:
        if word not in result.hidden():
            raise NoKind(f"{word} is no own hidden kind of the face")
        result = result.put({("", word): kind})
    return result


def fitted(had, wanted, part=""):
    """The had face's kinds for the wanted one's own hidden names, where the had face fits; else NoFit."""
    for word, kind in wanted.kinds.items():
        if word not in had.kinds:
            raise NoFit(part, word, kind, None)
    given = {}
    for word in wanted.hidden():
        given[("", word)] = had.kinds[word]
    for word, kind in wanted.kinds.items():
        # An own hidden word needs no passing over: what is put in for it is the had kind itself.
        due = put(kind, given)
        if due != had.kinds[word]:
            raise NoFit(part, word, due, had.kinds[word])
    for word, fun in wanted.funs.items():
        due = put_in_fun(fun, given)
        found = had.funs.get(word)
        if due != found:
            raise NoFit(part, word, due, found)
    return given


def under(one, other):
    """Whether the one face fits the other."""
    try:
        fitted(one, other)
    except NoFit:
        return False
    return True


def least(face):
    """The least form of a face: its kinds and its functions, sorted, hidden kinds named by their least words."""
    given = {}
    for word in sorted(face.kinds):
        kind = face.kinds[word]
        if kind[0] == "name" and kind[1] == "":
            # Words come in their order as texts, so the first one that has a hidden kind is the least.
            given.setdefault(("", kind[2]), own_name(word))
    kinds = [(word, put(face.kinds[word], given)) for word in sorted(face.kinds)]
    funs = [(word,) + put_in_fun(face.funs[word], given) for word in sorted(face.funs)]
    return (tuple(kinds), tuple(funs))

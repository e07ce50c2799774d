"""Parts: their full faces, what their seals want, and the faces that are seen of them."""

from sealhouse.errors import NoName, Twice
from sealhouse.faces import Face, fitted, put_in_face, refined
from sealhouse.kinds import normal


def full_face(items, parts, most=40):
    """The Face of all that a part's items tell, parts being a dict {q: Face}."""
    full = Face({}, {})
    for item in items:
        take_item(full, item, parts, most)
    return full


def take_item(full, item, parts, most=40):
    """Adds to a Face, made of the items ahead, what one item more tells."""
    if item[0] == "kind":
        add_once(full.kinds, item[1], normal(item[2], full.kinds, parts, most))
    elif item[0] == "fun":
        taken = tuple([normal(kind, full.kinds, parts, most) for word, kind in item[2]])
        add_once(full.funs, item[1], (taken, normal(item[3], full.kinds, parts, most)))
    else:
        take_opened(full, item[1], parts)


def take_opened(full, part, parts):
    """Adds to a Face all that is seen of an opened part, as it stands there."""
    if part not in parts:
        raise NoName(f"no part {part} to be opened")
    for word, kind in parts[part].kinds.items():
        add_once(full.kinds, word, kind)
    for word, fun in parts[part].funs.items():
        add_once(full.funs, word, fun)


def add_once(told, word, what):
    """Adds a word to a dict that lacks it so far."""
    if word in told:
        raise Twice(f"the word {word} is there already")
    told[word] = what


def wanted(seal, faces, parts):
    """The Face that a seal wants, or None of a bare one; faces being a dict {F: Face}."""
    if seal is None:
        return None
    word, withs = seal
    if word not in faces:
        raise NoName(f"no face {word}")
    return refined(faces[word], [(name, normal(kind, {}, parts)) for name, kind in withs])


def seen_face(full, want, part):
    """The Face that is seen of a part with that full Face, want being what its seal wants, or None."""
    if want is None:
        return Face(full.kinds, full.funs)
    fitted(full, want, part)
    return told_with(want, part)


def told_with(want, part):
    """A wanted Face, its own hidden kinds told as kinds that the part hides."""
    return put_in_face(want, hidden_by(want, part))


def hidden_by(want, part):
    """What is put in for a Face's own hidden kinds where they are a part's, {("", t): kind}."""
    given = {}
    for word in want.hidden():
        given[("", word)] = ("name", part, word)
    return given

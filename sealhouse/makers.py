"""Makers: what they want of parts, what they make of them, and the faces of made parts."""

from sealhouse.errors import NoCount
from sealhouse.faces import Face, fitted
from sealhouse.parts import full_face, hidden_by, told_with, wanted


class Maker:
    """What is known of a maker: the Face that each formal wants, as tuples (x, Face), and the Face that results."""

    def __init__(self, formals, result):
        self.formals = [(word, Face(want.kinds, want.funs)) for word, want in formals]
        self.result = Face(result.kinds, result.funs)


def maker_of(declaration, faces, parts):
    """The Maker that a declaration tells; its expressions aren't looked at."""
    wants = []
    for word, seal in declaration[2]:
        wants.append((word, wanted(seal, faces, known_within(wants, parts))))
    known = known_within(wants, parts)
    full = full_face(declaration[4], known)
    want = wanted(declaration[3], faces, known)
    if want is None:
        return Maker(wants, full)
    fitted(full, want, declaration[1])
    return Maker(wants, want)


def known_within(formals, parts):
    """The parts known within a maker, {q: Face}: those ahead of it, and its formals as they are seen there."""
    known = dict(parts)
    for word, want in formals:
        known[word] = told_with(want, word)
    return known


def made_face(maker, word, given):
    """The Face that is seen of a part made by a maker, of the seen Faces of the parts that are given to it."""
    if len(given) != len(maker.formals):
        due = len(maker.formals)
        found = len(given)
        raise NoCount(f"{word} is made of {found} parts, where {due} are due")
    named = {}
    for formal, had in zip(maker.formals, given):
        for name, kind in fitted(had, formal[1].put(named), word).items():
            named[(formal[0], name[1])] = kind
    # Put in together with the kinds of the formals: a formal may be called like the made part itself.
    named.update(hidden_by(maker.result, word))
    return maker.result.put(named)

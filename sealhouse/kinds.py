"""Kinds: their words, their names, and what is put in for names."""

from sealhouse.errors import NoKind, TooBig


def words_in(kind):
    """How many nums, pairs and names a kind has."""
    words = 0
    left = [kind]
    while len(left) > 0:
        here = left.pop()
        words += 1
        if here[0] == "pair":
            left.append(here[1])
            left.append(here[2])
    return words


def names_in(kind):
    """The names of a kind as tuples (q, t), each once, from left to right."""
    met = {}
    left = [kind]
    while len(left) > 0:
        here = left.pop()
        if here[0] == "pair":
            # The last one noted is taken first, so the left half is noted behind the right one.
            left.append(here[2])
            left.append(here[1])
        elif here[0] == "name":
            met[(here[1], here[2])] = True
    return list(met)


def put(kind, given):
    """The kind with the names that a dict {(q, t): kind} tells exchanged for their kinds, all at once."""
    if kind[0] == "pair":
        return ("pair", put(kind[1], given), put(kind[2], given))
    if kind[0] == "name":
        return given.get((kind[1], kind[2]), kind)
    return kind


def bounded(kind, most):
    """The kind itself, where it has no more words than that."""
    words = words_in(kind)
    if words > most:
        raise TooBig(f"a kind of {words} words, where {most} are the most")
    return kind


def normal(kind, own, parts, most=40):
    """The normal form of a kind, given the own kinds {t: kind} and the parts {q: Face}."""
    given = {}
    for part, word in names_in(kind):
        given[(part, word)] = told_kind(part, word, own, parts)
    return bounded(put(kind, given), most)


def told_kind(part, word, own, parts):
    """The kind that a name stands for."""
    if part == "":
        kinds = own
    elif part in parts:
        kinds = parts[part].kinds
    else:
        raise NoKind(f"no part {part}, so no kind {part}.{word}")
    if word not in kinds:
        raise NoKind(f"no kind {word!r} of {part!r}")
    return kinds[word]

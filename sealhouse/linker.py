"""The linker: the parts of a house, in an order, written out into one plain program."""

from sealhouse.errors import BadOrder
from sealhouse.expressions import calls_in, rebuilt, within
from sealhouse.faces import Face
from sealhouse.kinds import names_in
from sealhouse.looker import look
from sealhouse.parts import full_face
from sealhouse.plain import weights
from sealhouse.plans import Plan

MOST_WORDS = 200
PARAMS = ("a", "b", "c", "d")


def uses(house, p):
    """The words of the parts that a part uses, sorted."""
    return used_by(Plan(house), p)


def used_by(plan, part):
    """The words of the parts that a part uses, by its house's plan, sorted."""
    formals = plan.given_to(part)
    used = {}
    for item in plan.items_of(part):
        for word in words_named(item):
            if word != "" and word not in formals:
                used[word] = True
    for word in formals.values():
        used[word] = True
    return sorted(used)


def words_named(item):
    """The words of parts and formals that an item names, and "" for its own names."""
    if item[0] == "open":
        return [item[1]]
    if item[0] == "kind":
        return parts_in([item[2]])
    kinds = [kind for word, kind in item[2]] + [item[3]]
    return parts_in(kinds) + [part for part, word in calls_in(item[4])]


def parts_in(kinds):
    """The words ahead of the points of all names in kinds."""
    words = []
    for kind in kinds:
        words.extend([part for part, word in names_in(kind)])
    return words


def link(house, order=None):
    """The plain program of a house, with its parts in that order, or in the house's own one."""
    plan = Plan(house)
    words = plan.part_words() if order is None else list(order)
    look_at_order(plan, words)
    seen = look(house)
    written = {}
    program = []
    for word in words:
        known = known_to(plan, seen, word, written)
        full = full_face(plan.items_of(word), known, MOST_WORDS)
        for item in plan.items_of(word):
            program.extend(linked_item(plan, word, item, known, full))
        written[word] = narrowed(full, seen.parts[word])
    weights(program)
    return program


def look_at_order(plan, words):
    """Looks whether all parts are there, each once, each behind all that it uses."""
    if sorted(words) != sorted(plan.part_words()):
        raise BadOrder("an order has each part of the house, once")
    ahead = {}
    for word in words:
        for used in used_by(plan, word):
            if used not in ahead:
                raise BadOrder(f"{word} stands ahead of {used}, which it uses")
        ahead[word] = True


def known_to(plan, seen, part, written):
    """What the words of parts and formals stand for in a part's items, {q: Face}, all kinds written out."""
    known = dict(written)
    given = plan.given_to(part)
    for formal, want in plan.wants_of(part, seen.makers).items():
        # The part that is given may show more than the formal wants, but opening the formal brings no more than that.
        known[formal] = narrowed(written[given[formal]], want)
    return known


def narrowed(face, told):
    """A Face with the words of another one alone, in that one's order."""
    kinds = {}
    for word in told.kinds:
        kinds[word] = face.kinds[word]
    funs = {}
    for word in told.funs:
        funs[word] = face.funs[word]
    return Face(kinds, funs)


def linked_item(plan, part, item, known, full):
    """The plain functions that an item of a part brings, full being the part's Face with all kinds written out."""
    if item[0] == "kind":
        return []
    if item[0] == "fun":
        kinds, kind = full.funs[item[1]]
        params = tuple(zip([word for word, told in item[2]], kinds))
        return [((part, item[1]), params, kind, with_far_calls(plan, part, item[4]))]
    opened = plan.owner(part, item[1])
    return [opened_function(part, opened, word, fun) for word, fun in known[item[1]].funs.items()]


def opened_function(part, opened, word, fun):
    """The plain function that hands a call of an opened word on."""
    params = tuple(zip(PARAMS, fun[0]))
    values = tuple([("var", name) for name, kind in params])
    return ((part, word), params, fun[1], ("call", opened, word, values))


def with_far_calls(plan, part, expression):
    """An expression of a part's items, in which all calls are told with the words of the parts that are called."""
    inner = []
    for each in within(expression):
        inner.append(with_far_calls(plan, part, each))
    result = rebuilt(expression, inner)
    if result[0] != "call":
        return result
    return ("call", plan.owner(part, result[1]), result[2], result[3])

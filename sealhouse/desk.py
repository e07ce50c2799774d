"""The desk: what is asked of a house in texts, and answered in texts."""

from sealhouse.errors import NoName, NotPlain
from sealhouse.faces import least, own_name
from sealhouse.joining import joined
from sealhouse.kinds import names_in
from sealhouse.linker import link
from sealhouse.looker import kind_of, look
from sealhouse.reading import read_expression, read_house
from sealhouse.runner import run
from sealhouse.ties import tie
from sealhouse.trees import text_of
from sealhouse.ways import way
from sealhouse.writing import expression_text, face_item_tree, kind_text


def value_text(value):
    """The text of a value."""
    return text_of([value_tree(value)])


def value_tree(value):
    """The tree of a value."""
    if isinstance(value, tuple):
        return ("two", value_tree(value[0]), value_tree(value[1]))
    return str(value)


def answer(text, use):
    """The answer of a use in a house, written."""
    house = read_house(text)
    seen = look(house)
    expression = read_expression(use)
    kind = kind_of(seen, expression)
    if len(names_in(kind)) > 0:
        told = kind_text(kind)
        raise NotPlain(f"the use has the kind {told}")
    return value_text(run(link(house), expression))


def compared(text, p, q):
    """How two parts of a house compare: `tied N`, `parted E` or `open`."""
    found = tie(read_house(text), p, q)
    if found[0] == "tied":
        count = len(found[1])
        return f"tied {count}"
    if found[0] == "parted":
        use = expression_text(found[1])
        return f"parted {use}"
    return "open"


def way_text(text, one, other):
    """The way between two kinds, told by their far names: the kinds, or `none`."""
    house = read_house(text)
    seen = look(house)
    kinds = way(house, kind_word(seen, one), kind_word(seen, other))
    if kinds is None:
        return "none"
    return " = ".join([kind_text(kind) for kind in kinds])


def kind_word(seen, text):
    """The tuple (q, t) of a far name that tells a kind of a part."""
    words = text.split(".")
    if len(words) != 2 or words[0] not in seen.parts or words[1] not in seen.parts[words[0]].kinds:
        raise NoName(f"no kind {text}")
    return (words[0], words[1])


def join_text(text, one, other):
    """The least form of the join of two declared faces."""
    faces = look(read_house(text)).faces
    for word in (one, other):
        if word not in faces:
            raise NoName(f"no face {word}")
    return form_text(least(joined(faces[one], faces[other])))


def form_text(form):
    """The text of a face's least form."""
    items = [kind_item(word, kind) for word, kind in form[0]] + [("fun",) + fun for fun in form[1]]
    return " ".join([text_of([face_item_tree(item)]) for item in items])


def kind_item(word, kind):
    """A face's item that tells a kind."""
    if kind == own_name(word):
        return ("hid", word)
    return ("told", word, kind)

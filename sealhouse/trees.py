"""Trees: a word, or a tuple of trees; read from texts and written again."""

from sealhouse.errors import NoTree

DEEPEST = 30


def trees_of(text):
    """The list of trees that a text tells."""
    outer = []
    trees = []
    for piece in pieces_of(text):
        if piece == "(":
            if len(outer) == DEEPEST:
                raise NoTree(f"brackets nest more than {DEEPEST} deep")
            outer.append(trees)
            trees = []
        elif piece == ")":
            if len(outer) == 0:
                raise NoTree("a bracket closes none")
            closed = tuple(trees)
            trees = outer.pop()
            trees.append(closed)
        else:
            trees.append(piece)
    if len(outer) > 0:
        raise NoTree("a bracket isn't closed")
    return trees


def pieces_of(text):
    """The brackets and the words of a text, in their order."""
    # Only blanks and line feeds part words, so a split at every white sign would not do.
    apart = text.replace("(", " ( ").replace(")", " ) ").replace("\n", " ")
    return [piece for piece in apart.split(" ") if piece != ""]


def text_of(trees):
    """The text that tells a list of trees."""
    return "\n".join([tree_text(tree) for tree in trees])


def tree_text(tree):
    """The text of one tree."""
    # A use that is told may nest deeper than a recursion should go, so what is left to write is kept in a list.
    written = []
    left = [tree]
    while len(left) > 0:
        here = left.pop()
        if isinstance(here, str):
            written.append(here)
        else:
            for piece in reversed(bracket_pieces(here)):
                left.append(piece)
    return "".join(written)


def bracket_pieces(trees):
    """What stands in the text of a tuple of trees: its brackets, its trees, and the blanks between."""
    pieces = ["("]
    for place, tree in enumerate(trees):
        if place > 0:
            pieces.append(" ")
        pieces.append(tree)
    pieces.append(")")
    return pieces

"""The looker: a house looked at, declaration by declaration, each by what is seen of those ahead."""

from sealhouse.bodies import kind_in, look_within, told_fun
from sealhouse.errors import NoName, Refused, Twice
from sealhouse.faces import face_of
from sealhouse.makers import known_within, made_face, maker_of
from sealhouse.parts import full_face, seen_face, wanted


class Seen:
    """What is known of the declarations ahead, by their words: faces, seen Faces of parts, Makers."""

    def __init__(self):
        self.faces = {}
        self.parts = {}
        self.makers = {}

    def take(self, declaration):
        """Looks at a declaration, and notes what is seen of it."""
        form = declaration[0]
        word = declaration[1]
        if self.has_word(word):
            raise Twice(f"{word} is declared already")
        if form == "face":
            self.faces[word] = face_of(declaration[2], self.parts)
        elif form == "part":
            self.parts[word] = self.look_at_part(declaration)
        elif form == "maker":
            self.makers[word] = self.look_at_maker(declaration)
        else:
            self.parts[word] = self.look_at_made(declaration)

    def has_word(self, word):
        """Whether a declaration ahead has that word."""
        return word in self.faces or word in self.parts or word in self.makers

    def look_at_part(self, declaration):
        """The seen Face of a part."""
        word, seal, items = declaration[1:]
        full = full_face(items, self.parts)
        look_within(items, self.parts)
        return seen_face(full, wanted(seal, self.faces, self.parts), word)

    def look_at_maker(self, declaration):
        """The Maker that is declared."""
        self.look_at_formals(declaration)
        maker = maker_of(declaration, self.faces, self.parts)
        look_within(declaration[4], known_within(maker.formals, self.parts))
        return maker

    def look_at_formals(self, declaration):
        """Looks whether each formal's word is a new one."""
        met = {declaration[1]: True}
        for word, seal in declaration[2]:
            if word in met or self.has_word(word):
                raise Twice(f"the word of the formal {word} is there already")
            met[word] = True

    def look_at_made(self, declaration):
        """The seen Face of a made part."""
        word, maker, parts = declaration[1:]
        if maker not in self.makers:
            raise NoName(f"no maker {maker}")
        for part in parts:
            if part not in self.parts:
                raise NoName(f"no part {part}")
        return made_face(self.makers[maker], word, [self.parts[part] for part in parts])


def look(house):
    """What is seen of a house that is let by."""
    seen = Seen()
    for declaration in house:
        seen.take(declaration)
    return seen


def wrong_at(house):
    """The number, from 0, of the first declaration that is refused, or None."""
    seen = Seen()
    for place, declaration in enumerate(house):
        try:
            seen.take(declaration)
        except Refused:
            return place
    return None


def kind_of(seen, expression):
    """The kind of an expression asked from outside."""
    def called(part, word):
        return told_fun(part, word, {}, seen.parts)

    return kind_in(expression, {}, called)

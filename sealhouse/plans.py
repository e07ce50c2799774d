"""Plans: what each part of a house that is let by is made of, by the declarations as they stand."""


class Plan:
    """The declarations of a house by their words."""

    def __init__(self, house):
        self.declared = {}
        for declaration in house:
            self.declared[declaration[1]] = declaration

    def part_words(self):
        """The words of all parts, made ones among them, in the house's order."""
        return [word for word, told in self.declared.items() if told[0] in ("part", "made")]

    def face_items(self, face):
        """The items of a declared face."""
        return self.declared[face][2]

    def source(self, part):
        """The declaration whose seal and items a part has: its own, or its maker's."""
        told = self.declared[part]
        return told if told[0] == "part" else self.declared[told[2]]

    def seal_of(self, part):
        """The seal of a part, of a made one its maker's."""
        return self.source(part)[-2]

    def items_of(self, part):
        """The items of a part, of a made one its maker's."""
        return self.source(part)[-1]

    def given_to(self, part):
        """The words of the parts that a part is made of, by the words of the formals, {x: q}."""
        told = self.declared[part]
        if told[0] == "part":
            return {}
        return dict(zip([word for word, seal in self.source(part)[2]], told[3]))

    def wants_of(self, part, makers):
        """The Faces that are wanted of the parts that a part is made of, {x: Face}, by the Makers."""
        told = self.declared[part]
        if told[0] == "part":
            return {}
        return dict(makers[told[2]].formals)

    def brought(self, part, word, seen):
        """The Face whose words an `open` of that word brings in a part's items: of a formal the one that it wants."""
        wants = self.wants_of(part, seen.makers)
        return wants[word] if word in wants else seen.parts[word]

    def owner(self, part, word):
        """The part that a word ahead of a point stands for in a part's items; none is ahead where it is ""."""
        if word == "":
            return part
        return self.given_to(part).get(word, word)

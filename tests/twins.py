"""Houses with parts behind one face, built at random from a seed, some of them twins of one another by a code."""

from houses import Builder
from sealhouse.faces import face_of
from sealhouse.kinds import put

NUMS = (1, 2, 2, 3, 4)
# What hidden kinds are made of: the last one has more values than may be tied.
GREATER = (2, 3, 4, 5, 5, 7, 9, 18)


class Twins(Builder):
    """A house with a face, a part behind it, others behind the same face, and parts and makers that use them."""

    def build(self):
        self.hidden = ["t"] if self.often(0.7) else ["t", "s"]
        self.face = self.face_items()
        self.add(("face", "face", self.face))
        self.wide = face_of(self.face, {})
        made_of = {word: self.made_of() for word in self.hidden}
        bodies = {word: self.body(fun, made_of) for word, fun in self.wide.funs.items()}
        self.add(("part", "one", ("face", ()), self.part_items(made_of, bodies)))
        for word in ("other", "third")[:self.chance.randrange(1, 3)]:
            self.add(("part", word, ("face", ()), self.other_items(made_of, bodies)))
        for each in range(self.chance.randrange(4)):
            if len(self.house) <= 13:
                self.chance.choice((self.part, self.maker, self.made, self.made))()
        if self.made_before and len(self.house) <= 14:
            for part in ("one", "other"):
                maker = self.chance.choice(list(self.made_before))
                given = [part for each in self.made_before[maker]]
                self.add(("made", self.new_word("p"), maker, tuple(given)))
        return self.house

    def face_items(self):
        items = [("hid", word) for word in self.hidden]
        if self.often(0.2):
            items.append(("told", "a", ("name", "", "t")))
        if self.often(0.2):
            items.append(("told", "z", ("pair", ("name", "", "t"), ("num", 2))))
        hidden = [("name", "", word) for word in self.hidden]
        items.append(("fun", "begin", (), hidden[0] if self.often(0.7) else self.some(0.9)))
        if self.often(0.7):
            items.append(("fun", "grow", (hidden[0], self.some(0.2))[:self.chance.randrange(1, 3)], hidden[0]))
        if self.often(0.5):
            items.append(("fun", "read", (self.chance.choice(hidden),), self.some(0.1)))
        if self.often(0.5):
            items.append(("fun", "mix", tuple(self.some(0.6) for each in range(self.chance.randrange(1, 4))), self.some(0.6)))
        return tuple(items)

    def some(self, share):
        """A small kind, a hidden one or a num or a pair of these."""
        if self.often(0.15):
            return ("pair", self.some(share), self.some(share))
        if self.often(share):
            return ("name", "", self.chance.choice(self.hidden))
        return ("num", self.chance.choice(NUMS))

    def made_of(self):
        if self.often(0.3):
            return ("pair", ("num", self.chance.choice(NUMS)), ("num", self.chance.choice(NUMS)))
        return ("num", self.chance.choice(GREATER))

    def body(self, fun, made_of):
        """An expression for a function, its params being a, b, c, d, where hidden kinds are made of these."""
        given = {("", word): kind for word, kind in made_of.items()}
        variables = {name: put(kind, given) for name, kind in zip("abcd", fun[0])}
        due = put(fun[1], given)
        same = [name for name in variables if variables[name] == due]
        if due[0] == "num" and same and self.often(0.7):
            # A step, or a test whether enough of them were taken, so that the hidden values come to be many.
            return ("op", "+", due[1], ("var", same[0]), ("lit", self.chance.randrange(due[1]), due[1]))
        if due[0] == "num" and "a" in variables and variables["a"][0] == "num" and self.often(0.5):
            size = variables["a"][1]
            late = ("test", "<", ("var", "a"), ("lit", self.chance.randrange(size), size))
            return ("as", due[1], late)
        return self.expression(due, variables, {}, 3)

    def part_items(self, made_of, bodies):
        items = [("kind", word, kind) for word, kind in made_of.items()]
        items += [("kind", item[1], item[2]) for item in self.face if item[0] == "told"]
        for word, (kinds, kind) in self.wide.funs.items():
            params = tuple(zip("abcd", kinds))
            items.append(("fun", word, params, kind, bodies[word]))
        return tuple(items)

    def other_items(self, made_of, bodies):
        """The items of another part: a twin by a code, a twin with another body, or one that has nothing in common."""
        if self.often(0.2):
            others = {word: self.made_of() for word in self.hidden}
            return self.part_items(others, {word: self.body(fun, others) for word, fun in self.wide.funs.items()})
        bodies = dict(bodies)
        if self.often(0.35):
            word = self.chance.choice(list(bodies))
            bodies[word] = self.body(self.wide.funs[word], made_of)
        codes = {word: self.code(kind) for word, kind in made_of.items()}
        return self.coded_items(made_of, bodies, codes)

    def code(self, kind):
        """Another kind with expressions from x to it and back."""
        form = self.chance.choice(("same", "beside", "turned", "wider"))
        if form == "beside":
            size = self.chance.choice(NUMS)
            beside = ("lit", self.chance.randrange(size), size)
            return ("pair", ("num", size), kind), ("two", beside, ("var", "x")), ("second", ("var", "x"))
        if form == "turned" and kind[0] == "num":
            shift = ("lit", self.chance.randrange(kind[1]), kind[1])
            return kind, ("op", "+", kind[1], ("var", "x"), shift), ("op", "-", kind[1], ("var", "x"), shift)
        if form == "wider" and kind[0] == "num":
            size = kind[1] + self.chance.randrange(1, 3)
            return ("num", size), ("as", size, ("var", "x")), ("as", kind[1], ("var", "x"))
        return kind, ("var", "x"), ("var", "x")

    def coded_items(self, made_of, bodies, codes):
        items = []
        for word, (kind, there, back) in codes.items():
            items.append(("kind", word, kind))
            items.append(("fun", "to" + word, (("x", made_of[word]),), kind, there))
            items.append(("fun", "of" + word, (("x", kind),), made_of[word], back))
        items += [("kind", item[1], item[2]) for item in self.face if item[0] == "told"]
        for word, (kinds, kind) in self.wide.funs.items():
            body = self.coded("to", kind, bodies[word])
            for name, taken in zip("abcd", kinds):
                body = ("let", name, self.coded("of", taken, ("var", name)), body)
            items.append(("fun", word, tuple(zip("abcd", kinds)), kind, body))
        return tuple(items)

    def coded(self, way, kind, told):
        """An expression with the hidden values in it exchanged by their code."""
        if kind[0] == "name":
            return ("call", "", way + kind[2], (told,))
        if kind[0] == "num":
            return told
        halves = [self.coded(way, kind[1], ("first", ("var", "v"))), self.coded(way, kind[2], ("second", ("var", "v")))]
        return ("let", "v", told, ("two",) + tuple(halves))


def twins(seed):
    """A house that is let by, with parts that stand behind one face."""
    return Twins(seed).build()

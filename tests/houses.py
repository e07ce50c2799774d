"""Houses that are let by, built at random from a seed: the same seed gives the same house."""

import random

from sealhouse.errors import Refused
from sealhouse.expressions import within
from sealhouse.faces import under
from sealhouse.kinds import names_in, normal
from sealhouse.linker import uses
from sealhouse.looker import Seen, kind_of, look
from sealhouse.makers import known_within
from sealhouse.parts import full_face, wanted

SIZES = (1, 2, 3, 10)
MOST_ORDERS = 12
# Words of formals, which later parts are called by, too.
FORMALS = ("x", "y", "z", "v")


class Builder:
    def __init__(self, seed):
        self.chance = random.Random(seed)
        self.seen = Seen()
        self.house = []
        self.made_before = {}

    def often(self, share):
        return self.chance.random() < share

    def free(self, words):
        taken = [declaration[1] for declaration in self.house]
        return [word for word in words if word not in taken]

    def new_word(self, letter):
        free = self.free(FORMALS)
        if letter == "p" and free and self.often(0.4):
            return self.chance.choice(free)
        return self.free([letter + sign for sign in "abcdefghijklmnopqrtuvwxyz"])[0]

    def add(self, declaration):
        try:
            self.seen.take(declaration)
        except Refused:
            return False
        self.house.append(declaration)
        return True

    def kind(self, own, known, depth=2):
        """A kind that may name own kinds and kinds of known parts."""
        if depth > 0 and self.often(0.4):
            return ("pair", self.kind(own, known, depth - 1), self.kind(own, known, depth - 1))
        names = [("name", "", word) for word in own]
        names += [("name", part, word) for part in known for word in known[part].kinds]
        if names and self.often(0.7):
            return self.chance.choice(names)
        return ("num", self.chance.choice(SIZES))

    def items(self, known):
        """A part's items that have a full face, and whose functions are let by."""
        items = []
        for each in range(self.chance.randrange(1, 9)):
            full = full_face(items, known)
            item = self.item(full, known, f"k{'abcdefghijk'[each]}")
            try:
                full_face(items + [item], known)
            except Refused:
                continue
            items.append(item)
        return tuple(items)

    def item(self, full, known, word):
        form = self.chance.choice(("kind", "kind", "open", "fun", "fun", "fun"))
        word = self.chance.choice((word, "t", "s", "f", "g"))
        if form == "kind":
            return ("kind", word, self.kind(full.kinds, known))
        if form == "open" and known:
            return ("open", self.chance.choice(list(known)))
        return self.fun(full, known, word)

    def fun(self, full, known, word):
        params = [(name, self.kind(full.kinds, known)) for name in "abcx"[:self.chance.randrange(4)]]
        try:
            variables = {name: normal(kind, full.kinds, known) for name, kind in params}
            kind = self.kind(full.kinds, known)
            due = normal(kind, full.kinds, known)
        except Refused:
            return ("fun", word, (), ("num", 1), ("lit", 0, 1))
        calls = {("", name): fun for name, fun in full.funs.items()}
        for part in known:
            calls.update({(part, name): fun for name, fun in known[part].funs.items()})
        told = self.expression(due, variables, calls, 3)
        if told is None:
            params.append(("d", kind))
            told = ("var", "d")
        return ("fun", word, tuple(params), kind, told)

    def expression(self, kind, variables, calls, depth):
        """An expression of a normal kind, or None where none was found."""
        makers = [self.variable, self.plain, self.call, self.choice, self.let, self.half]
        self.chance.shuffle(makers)
        if self.often(0.5):
            makers.insert(0, self.call)
        for make in makers if depth > 0 else [self.variable, self.plain]:
            told = make(kind, variables, calls, depth - 1)
            if told is not None:
                return told
        return None

    def several(self, kinds, variables, calls, depth):
        told = []
        for kind in kinds:
            told.append(self.expression(kind, variables, calls, depth))
            if told[-1] is None:
                return None
        return tuple(told)

    def variable(self, kind, variables, calls, depth):
        words = [word for word in variables if variables[word] == kind]
        return ("var", self.chance.choice(words)) if words else None

    def plain(self, kind, variables, calls, depth):
        if kind[0] == "num":
            return self.number(kind, variables, calls, depth)
        inner = self.several(kind[1:], variables, calls, max(depth, 0)) if kind[0] == "pair" else None
        return None if inner is None else ("two",) + inner

    def number(self, kind, variables, calls, depth):
        form = self.chance.choice(("lit", "op", "as", "test")) if depth > 0 else "lit"
        if form == "lit":
            return ("lit", self.chance.randrange(kind[1]), kind[1])
        if form == "op":
            return ("op", self.chance.choice("+-*"), kind[1]) + self.several([kind, kind], variables, calls, depth)
        side = ("num", self.chance.choice(SIZES))
        inner = self.several([side, side], variables, calls, depth)
        if form == "test" and kind == ("num", 2):
            return ("test", self.chance.choice("=<")) + inner
        return ("as", kind[1], inner[0])

    def call(self, kind, variables, calls, depth):
        names = [name for name in calls if calls[name][1] == kind]
        if not names:
            return None
        name = self.chance.choice(names)
        inner = self.several(calls[name][0], variables, calls, depth)
        return None if inner is None else ("call",) + name + (inner,)

    def choice(self, kind, variables, calls, depth):
        inner = self.several([("num", 2), kind, kind], variables, calls, depth)
        return None if inner is None else ("if",) + inner

    def some_kind(self, variables, calls):
        kinds = list(variables.values()) + [fun[1] for fun in calls.values()] + [("num", 2)]
        return self.chance.choice(kinds)

    def let(self, kind, variables, calls, depth):
        inner = self.some_kind(variables, calls)
        value = self.expression(inner, variables, calls, depth)
        if value is None:
            return None
        word = self.chance.choice("abxy")
        told = self.expression(kind, dict(variables, **{word: inner}), calls, depth)
        return None if told is None else ("let", word, value, told)

    def half(self, kind, variables, calls, depth):
        other = self.some_kind(variables, calls)
        form, due = self.chance.choice((("first", ("pair", kind, other)), ("second", ("pair", other, kind))))
        inner = self.several([due], variables, calls, depth)
        return None if inner is None else (form,) + inner

    def seal(self, full, formals):
        """A seal, with a face declared for it, that a full face fits; or None."""
        if self.often(0.35):
            return None
        items = []
        shown = {}
        withs = []
        for word in self.chance.sample(list(full.kinds), len(full.kinds)):
            kind = full.kinds[word]
            named = any(part in formals for part, name in names_in(kind))
            if self.often(0.2):
                continue
            if named or self.often(0.65):
                items.append(("hid", word))
                if self.often(0.3):
                    withs.append((word, kind))
            else:
                items.append(("told", word, self.shown(kind, shown)))
            shown[word] = kind
        for word in self.chance.sample(list(full.funs), len(full.funs)):
            kinds = [self.shown(kind, shown) for kind in full.funs[word][0] + (full.funs[word][1],)]
            named = any(part in formals for kind in kinds for part, name in names_in(kind))
            if not named and self.often(0.85):
                items.append(("fun", word, tuple(kinds[:-1]), kinds[-1]))
        face = self.new_word("f")
        return (face, tuple(withs)) if self.add(("face", face, tuple(items))) else None

    def shown(self, kind, shown):
        """A kind in which some of what has a word is told by its word."""
        words = [word for word in shown if shown[word] == kind]
        if words and self.often(0.9):
            return ("name", "", self.chance.choice(words))
        if kind[0] == "pair":
            return ("pair", self.shown(kind[1], shown), self.shown(kind[2], shown))
        return kind

    def part(self):
        items = self.items(self.seen.parts)
        seal = self.seal(full_face(items, self.seen.parts), ())
        self.add(("part", self.new_word("p"), seal, items))

    def maker(self):
        formals = []
        given = []
        wants = []
        for word in self.free(FORMALS)[:self.chance.randrange(1, 4)]:
            fits = [(face, part) for face in self.seen.faces for part in self.seen.parts
                    if under(self.seen.parts[part], self.seen.faces[face])]
            if fits:
                face, part = self.chance.choice(fits)
                formals.append((word, (face, self.withs(face, part, wants, given))))
                given.append(part)
                wants.append((word, wanted(formals[-1][1], self.seen.faces, known_within(wants, self.seen.parts))))
        if formals:
            known = known_within(wants, self.seen.parts)
            items = self.items(known)
            seal = self.seal(full_face(items, known), [word for word, want in wants])
            word = self.new_word("m")
            if self.add(("maker", word, tuple(formals), seal, items)):
                self.made_before[word] = given

    def withs(self, face, part, wants, given):
        """Withs for a formal that the part fits, some of them by kinds of formals ahead."""
        withs = []
        for word in self.seen.faces[face].hidden():
            kind = self.seen.parts[part].kinds[word]
            shared = [("name", want[0], name) for want, other in zip(wants, given) for name in want[1].hidden()
                      if self.seen.parts[other].kinds[name] == kind]
            if shared and self.often(0.6):
                withs.append((word, self.chance.choice(shared)))
            elif self.often(0.15):
                withs.append((word, kind))
        return tuple(withs)

    def made(self):
        if self.seen.makers:
            maker = self.chance.choice(list(self.seen.makers))
            given = self.made_before[maker]
            if self.often(0.4):
                given = [self.chance.choice(list(self.seen.parts)) for each in given]
            self.add(("made", self.new_word("p"), maker, tuple(given)))


def built(seed):
    """A house of at most 16 declarations that is let by."""
    builder = Builder(seed)
    for each in range(builder.chance.randrange(4, 12)):
        if len(builder.house) <= 13:
            builder.chance.choice((builder.part, builder.part, builder.maker, builder.made, builder.made))()
    return builder.house


def uses_from_outside(house, seed, count):
    """Expressions that are asked from outside, built at random: some of kinds without names, some of others."""
    builder = Builder(seed)
    builder.seen = look(house)
    calls = {}
    for part, face in builder.seen.parts.items():
        calls.update({(part, word): fun for word, fun in face.funs.items()})
    hidden = [fun[1] for fun in calls.values() if names_in(fun[1])]
    told = []
    for each in range(count):
        kind = builder.some_kind({}, calls) if builder.often(0.7) else builder.kind({}, builder.seen.parts)
        if hidden and builder.often(0.5):
            kind = builder.chance.choice(hidden)
        try:
            kind = normal(kind, {}, builder.seen.parts)
            use = builder.expression(kind, {}, calls, 4)
            if use is not None and size_of(use) <= 300 and kind_of(builder.seen, use) == kind:
                told.append((use, kind))
        except Refused:
            continue
    return told


def size_of(expression):
    """How many expressions an expression has in it, counted with itself."""
    return 1 + sum(size_of(each) for each in within(expression))


def parts_of(house):
    return [declaration[1] for declaration in house if declaration[0] in ("part", "made")]


def orders(house, ahead=()):
    """All orders in which parts stand behind those that they use, one by one."""
    left = [part for part in parts_of(house) if part not in ahead]
    if not left:
        yield list(ahead)
    for part in reversed(left):
        if set(uses(house, part)) <= set(ahead):
            yield from orders(house, ahead + (part,))


def some_orders(house):
    """The first ones of all orders."""
    for number, order in enumerate(orders(house)):
        if number == MOST_ORDERS:
            return
        yield order

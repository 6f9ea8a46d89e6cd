"""Programs for the tests: one of each kind of part, deep and wide ones, and chance ones from a seed."""

import random


class Places:
    """Hands out unlike places, from 0 on."""

    def __init__(self):
        self.given = 0

    def new(self):
        self.given += 1
        return self.given - 1


def number(place, n=1):
    return ("number", place, n)


def one_of_each_kind():
    """Each is a program; together they have each kind of part, with and without things in brackets."""
    return [
        ("number", 0, 5),
        ("let", 0, "x", number(1), ("name", 2, "x")),
        ("fn", 0, (), number(1)),
        ("fn", 0, ("a", "b", "c", "d"), ("name", 1, "d")),
        ("call", 0, number(1), ()),
        ("call", 0, number(1), (number(2), number(3), number(4), number(5))),
        ("let", 0, "x", number(1), ("set", 2, "x", number(3))),
        ("do", 0, number(1), number(2)),
        ("if", 0, number(1), number(2), number(3)),
        ("math", 0, "add", number(1), number(2)),
        ("math", 0, "sub", number(1), number(2)),
        ("math", 0, "mul", number(1), number(2)),
        ("math", 0, "less", number(1), number(2)),
        ("math", 0, "same", number(1), number(2)),
        ("make", 0, "tag", ()),
        ("make", 0, "tag", (number(1), number(2), number(3), number(4))),
        ("match", 0, number(1), "tag", (), number(2), number(3)),
        ("match", 0, number(1), "tag", ("a", "b", "c", "d"), ("name", 2, "c"), number(3)),
        ("raise", 0, "word", number(1)),
        ("try", 0, number(1), "word", "x", ("name", 2, "x")),
        ("tell", 0, number(1)),
        ("ask", 0),
    ]


def tells_round(many, part, first):
    """So many tells within one another round a part, with places from first on."""
    for place in range(first, first + many):
        part = ("tell", place, part)
    return part


def nested(many):
    return tells_round(many, number(0), 1)


def wide(many):
    """A program of just so many parts, at most eight within one another, by halving the dos."""
    places = Places()

    def made(parts):
        place = places.new()
        if parts == 1:
            return number(place)
        if parts == 2:
            return ("tell", place, made(1))
        first = (parts - 1) // 2
        return ("do", place, made(first), made(parts - 1 - first))

    return made(many)


HEADS = "fn call let set do if add sub mul less same make match raise try tell ask".split()
NAMES = ["x", "y", "zz", "abcdefgh", "number", "math"]


class Chance:
    """Programs by chance, the same for the same seed."""

    def __init__(self, seed):
        self.chance = random.Random(seed)
        self.places = Places()

    def program(self, depth=4):
        self.places = Places()
        return self.part((), depth)

    def word(self):
        return self.chance.choice(NAMES + HEADS)

    def name(self):
        return self.chance.choice(NAMES)

    def names(self):
        return tuple(self.chance.sample(NAMES, self.chance.randint(0, 4)))

    def parts(self, there, depth):
        return tuple([self.part(there, depth) for _ in range(self.chance.randint(0, 4))])

    def leaf(self, there):
        if there and self.chance.randint(0, 1):
            return ("name", self.places.new(), self.chance.choice(there))
        return ("number", self.places.new(), self.chance.choice([0, 1, -1, 42, 10 ** 12 - 1, 1 - 10 ** 12]))

    def part(self, there, depth):
        kinds = "fn call let do if math make match raise try tell ask leaf".split() + ["set"] * bool(there)
        kind = self.chance.choice(kinds)
        if depth == 0 or kind == "leaf":
            return self.leaf(there)
        return getattr(self, "a_" + kind)(self.places.new(), there, depth - 1)

    def a_fn(self, place, there, depth):
        names = self.names()
        return ("fn", place, names, self.part(there + names, depth))

    def a_call(self, place, there, depth):
        return ("call", place, self.part(there, depth), self.parts(there, depth))

    def a_let(self, place, there, depth):
        name = self.name()
        return ("let", place, name, self.part(there, depth), self.part(there + (name,), depth))

    def a_set(self, place, there, depth):
        return ("set", place, self.chance.choice(there), self.part(there, depth))

    def a_do(self, place, there, depth):
        return ("do", place, self.part(there, depth), self.part(there, depth))

    def a_if(self, place, there, depth):
        return ("if", place, self.part(there, depth), self.part(there, depth), self.part(there, depth))

    def a_math(self, place, there, depth):
        op = self.chance.choice(["add", "sub", "mul", "less", "same"])
        return ("math", place, op, self.part(there, depth), self.part(there, depth))

    def a_make(self, place, there, depth):
        return ("make", place, self.word(), self.parts(there, depth))

    def a_match(self, place, there, depth):
        names = self.names()
        one = self.part(there, depth)
        yes = self.part(there + names, depth)
        return ("match", place, one, self.word(), names, yes, self.part(there, depth))

    def a_raise(self, place, there, depth):
        return ("raise", place, self.word(), self.part(there, depth))

    def a_try(self, place, there, depth):
        name = self.name()
        one = self.part(there, depth)
        return ("try", place, one, self.word(), name, self.part(there + (name,), depth))

    def a_tell(self, place, there, depth):
        return ("tell", place, self.part(there, depth))

    def a_ask(self, place, there, depth):
        return ("ask", place)


def is_part(thing):
    return isinstance(thing, tuple) and len(thing) >= 2 and isinstance(thing[1], int)


def parts_of(part):
    """All parts of a program, each ahead of those within it."""
    found = [part]
    for thing in part[2:]:
        if is_part(thing):
            found.extend(parts_of(thing))
        elif isinstance(thing, tuple):
            for inner in thing:
                if is_part(inner):
                    found.extend(parts_of(inner))
    return found


def without_places(thing):
    if is_part(thing):
        return (thing[0],) + tuple([without_places(inner) for inner in thing[2:]])
    if isinstance(thing, tuple):
        return tuple([without_places(inner) for inner in thing])
    return thing

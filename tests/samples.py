"""Programs for the tests: one of each kind of part, deep and wide ones, and chance ones from a seed."""

import random


class Places:
    """Hands out unlike places, from 0 on."""

    def __init__(self):
        self.given = 0

    def new(self):
        self.given += 1
        return self.given - 1


def number(place, n=1):
    return ("number", place, n)


def one_of_each_kind():
    """Each is a program; together they have each kind of part, with and without things in brackets."""
    return [
        ("number", 0, 5),
        ("let", 0, "x", number(1), ("name", 2, "x")),
        ("fn", 0, (), number(1)),
        ("fn", 0, ("a", "b", "c", "d"), ("name", 1, "d")),
        ("call", 0, number(1), ()),
        ("call", 0, number(1), (number(2), number(3), number(4), number(5))),
        ("let", 0, "x", number(1), ("set", 2, "x", number(3))),
        ("do", 0, number(1), number(2)),
        ("if", 0, number(1), number(2), number(3)),
        ("math", 0, "add", number(1), number(2)),
        ("math", 0, "sub", number(1), number(2)),
        ("math", 0, "mul", number(1), number(2)),
        ("math", 0, "less", number(1), number(2)),
        ("math", 0, "same", number(1), number(2)),
        ("make", 0, "tag", ()),
        ("make", 0, "tag", (number(1), number(2), number(3), number(4))),
        ("match", 0, number(1), "tag", (), number(2), number(3)),
        ("match", 0, number(1), "tag", ("a", "b", "c", "d"), ("name", 2, "c"), number(3)),
        ("raise", 0, "word", number(1)),
        ("try", 0, number(1), "word", "x", ("name", 2, "x")),
        ("tell", 0, number(1)),
        ("ask", 0),
    ]


def tells_round(many, part, first):
    """So many tells within one another round a part, with places from first on."""
    for place in range(first, first + many):
        part = ("tell", place, part)
    return part


def nested(many):
    return tells_round(many, number(0), 1)


def wide(many):
    """A program of just so many parts, at most eight within one another, by halving the dos."""
    places = Places()

    def made(parts):
        place = places.new()
        if parts == 1:
            return number(place)
        if parts == 2:
            return ("tell", place, made(1))
        first = (parts - 1) // 2
        return ("do", place, made(first), made(parts - 1 - first))

    return made(many)


HEADS = "fn call let set do if add sub mul less same make match raise try tell ask".split()
NAMES = ["x", "y", "zz", "abcdefgh", "number", "math"]


class Chance:
    """Programs by chance, the same for the same seed."""

    def __init__(self, seed):
        self.chance = random.Random(seed)
        self.places = Places()

    def program(self, depth=4):
        self.places = Places()
        return self.part((), depth)

    def word(self):
        return self.chance.choice(NAMES + HEADS)

    def name(self):
        return self.chance.choice(NAMES)

    def names(self):
        return tuple(self.chance.sample(NAMES, self.chance.randint(0, 4)))

    def parts(self, there, depth):
        return tuple([self.part(there, depth) for _ in range(self.chance.randint(0, 4))])

    def leaf(self, there):
        if there and self.chance.randint(0, 1):
            return ("name", self.places.new(), self.chance.choice(there))
        return ("number", self.places.new(), self.chance.choice([0, 1, -1, 42, 10 ** 12 - 1, 1 - 10 ** 12]))

    def part(self, there, depth):
        kinds = "fn call let do if math make match raise try tell ask leaf".split() + ["set"] * bool(there)
        kind = self.chance.choice(kinds)
        if depth == 0 or kind == "leaf":
            return self.leaf(there)
        return getattr(self, "a_" + kind)(self.places.new(), there, depth - 1)

    def a_fn(self, place, there, depth):
        names = self.names()
        return ("fn", place, names, self.part(there + names, depth))

    def a_call(self, place, there, depth):
        return ("call", place, self.part(there, depth), self.parts(there, depth))

    def a_let(self, place, there, depth):
        name = self.name()
        return ("let", place, name, self.part(there, depth), self.part(there + (name,), depth))

    def a_set(self, place, there, depth):
        return ("set", place, self.chance.choice(there), self.part(there, depth))

    def a_do(self, place, there, depth):
        return ("do", place, self.part(there, depth), self.part(there, depth))

    def a_if(self, place, there, depth):
        return ("if", place, self.part(there, depth), self.part(there, depth), self.part(there, depth))

    def a_math(self, place, there, depth):
        op = self.chance.choice(["add", "sub", "mul", "less", "same"])
        return ("math", place, op, self.part(there, depth), self.part(there, depth))

    def a_make(self, place, there, depth):
        return ("make", place, self.word(), self.parts(there, depth))

    def a_match(self, place, there, depth):
        names = self.names()
        one = self.part(there, depth)
        yes = self.part(there + names, depth)
        return ("match", place, one, self.word(), names, yes, self.part(there, depth))

    def a_raise(self, place, there, depth):
        return ("raise", place, self.word(), self.part(there, depth))

    def a_try(self, place, there, depth):
        name = self.name()
        one = self.part(there, depth)
        return ("try", place, one, self.word(), name, self.part(there + (name,), depth))

    def a_tell(self, place, there, depth):
        return ("tell", place, self.part(there, depth))

    def a_ask(self, place, there, depth):
        return ("ask", place)


def is_part(thing):
    return isinstance(thing, tuple) and len(thing) >= 2 and isinstance(thing[1], int)


def parts_of(part):
    """All parts of a program, each ahead of those within it."""
    found = [part]
    for thing in part[2:]:
        if is_part(thing):
            found.extend(parts_of(thing))
        elif isinstance(thing, tuple):
            for inner in thing:
                if is_part(inner):
                    found.extend(parts_of(inner))
    return found


def without_places(thing):
    if is_part(thing):
        return (thing[0],) + tuple([without_places(inner) for inner in thing[2:]])
    if isinstance(thing, tuple):
        return tuple([without_places(inner) for inner in thing])
    return thing


class Lively:
    """Programs by chance whose runs go far: the kinds of values mostly fit, and loops are among them. A scope tells
    for each name what it holds: "n" for a number, "b" for a block, or for a function how many parameters it has."""

    def __init__(self, seed, wrong=25):
        self.chance = random.Random(seed)
        self.wrong = wrong
        self.places = Places()

    def program(self, depth=5):
        self.places = Places()
        return self.part("n", {}, depth)

    def part(self, kind, scope, depth):
        if self.wrong and not self.chance.randrange(self.wrong):
            kind = self.chance.choice(["n", "b", 0, 1, 2])
        named = [name for name in scope if scope[name] == kind]
        if named and self.chance.randrange(8) < (3 if depth else 8):
            return ("name", self.places.new(), self.chance.choice(named))
        if depth <= 0:
            return self.small(kind)
        if self.chance.randrange(3) == 0:
            return self.round_it(kind, scope, depth)
        if kind == "n":
            return self.number_part(scope, depth)
        if kind == "b":
            parts = [self.part(self.any_kind(), scope, depth - 2) for _ in range(self.chance.randrange(4))]
            return ("make", self.places.new(), self.chance.choice(["pair", "list"]), tuple(parts))
        return self.function(kind, scope, depth)

    def any_kind(self):
        return self.chance.choice(["n", "n", "n", "b", "b", 0, 1, 2])

    def small(self, kind):
        place = self.places.new()
        if kind == "n":
            return ("number", place, self.chance.choice([0, 1, 2, 3, -1, 7]))
        if kind == "b":
            return ("make", place, "pair", ())
        return ("fn", place, ("a", "b", "c", "d")[:kind], ("number", self.places.new(), self.chance.randrange(3)))

    def function(self, many, scope, depth):
        names = tuple(self.chance.sample(NAMES, many))
        inside = dict(scope)
        inside.update({name: "n" for name in names})
        return ("fn", self.places.new(), names, self.part("n", inside, depth - 1))

    def round_it(self, kind, scope, depth):
        """A part that may have a value of any kind."""
        sort = self.chance.choice("let let do if match try try".split())
        place = self.places.new()
        if sort == "let":
            name, held = self.chance.choice(NAMES), self.any_kind()
            one = self.part(held, scope, depth - 1)
            return ("let", place, name, one, self.part(kind, {**scope, name: held}, depth - 1))
        if sort == "do":
            return ("do", place, self.part(self.any_kind(), scope, depth - 1), self.part(kind, scope, depth - 1))
        if sort == "if":
            return ("if", place) + tuple([self.part(each, scope, depth - 1) for each in ("n", kind, kind)])
        if sort == "match":
            return self.matching(place, kind, scope, depth)
        name = self.chance.choice(NAMES)
        one = self.part(kind, scope, depth - 1)
        other = self.part(kind, {**scope, name: "n"}, depth - 1)
        return ("try", place, one, self.chance.choice(["kind", "odd", "big", "oh", "oh"]), name, other)

    def matching(self, place, kind, scope, depth):
        names = tuple(self.chance.sample(NAMES, self.chance.randrange(3)))
        parts = tuple([self.part("n", scope, depth - 2) for _ in names])
        one = ("make", self.places.new(), "pair", parts)
        if self.chance.randrange(2):
            one = self.part("b", scope, depth - 1)
        yes = self.part(kind, {**scope, **{name: "n" for name in names}}, depth - 1)
        return ("match", place, one, "pair", names, yes, self.part(kind, scope, depth - 1))

    def number_part(self, scope, depth):
        sort = self.chance.choice("math math tell ask raise set set call call call loop loop".split())
        place = self.places.new()
        if sort == "set" and scope:
            name = self.chance.choice(sorted(scope))
            return ("set", place, name, self.part(scope[name], scope, depth - 1))
        if sort == "call":
            many = self.chance.randrange(3)
            args = tuple([self.part("n", scope, depth - 1) for _ in range(many)])
            return ("call", place, self.part(many, scope, depth - 1), args)
        if sort == "loop" and depth > 2:
            return self.loop(place, scope, depth)
        if sort == "tell":
            return ("tell", place, self.part("n", scope, depth - 1))
        if sort == "ask":
            return ("ask", place)
        if sort == "raise":
            return ("raise", place, self.chance.choice(["oh", "oh", "kind"]), self.part("n", scope, depth - 1))
        op = self.chance.choice(["add", "add", "sub", "mul", "less", "same"])
        return ("math", place, op, self.part("n", scope, depth - 1), self.part("n", scope, depth - 1))

    def loop(self, place, scope, depth):
        """A function that calls itself, in last place or not, as often as its first argument tells."""
        new = self.places.new
        step = ("math", new(), "sub", ("name", new(), "i"), ("number", new(), 1))
        inside = {**scope, "f": 2, "i": "n", "v": self.chance.choice(["n", "b"])}
        again = ("call", new(), ("name", new(), "f"), (step, self.part(inside["v"], inside, depth - 3)))
        if self.chance.randrange(3) == 0:
            again = ("math", new(), "add", again, ("number", new(), 1))
        body = ("if", new(), ("math", new(), "less", ("number", new(), 0), ("name", new(), "i")), again,
                self.part("n", inside, depth - 3))
        made = ("set", new(), "f", ("fn", new(), ("i", "v"), body))
        first = (("number", new(), self.chance.choice([1, 3, 9, 60])), self.part(inside["v"], scope, depth - 3))
        return ("let", place, "f", ("number", new(), 0),
                ("do", new(), made, ("call", new(), ("name", new(), "f"), first)))


def lively_programs(seed, many, depth=5, wrong=25):
    """So many programs that keep to the bounds, the same for the same seed."""
    lively = Lively(seed, wrong)
    found = []
    while len(found) < many:
        program = lively.program(depth)
        if len(parts_of(program)) <= 300 and lively.places.given <= 600:
            found.append(program)
    return found


def chance_programs(seed, many):
    """At most so many, as some do not keep to the bounds."""
    chance = Chance(seed)
    found = [chance.program() for _ in range(many)]
    return [program for program in found if len(parts_of(program)) <= 300]


def many_programs(seed):
    """Programs of every sort, for what holds of each of them."""
    return chance_programs(seed, 200) + lively_programs(seed + 1, 300) + one_of_each_kind() + [nested(20), wide(300)]


DOWN = "(let f 0 (do (set f (fn (n) (if n (add 1 (call f (sub n 1))) (raise oh n)))) {}))"

# Programs each of which has something that a runner may get wrong: faults of each kind, caught and not, in and out of
# calls, calls that are dropped, names that are set and hidden, calls in each last place.
TEXTS_TO_RUN = [
    "(try (call 1) kind x (tell 5))", "(try (call (make t) 2) kind x (tell x))",
    "(try (call (fn () (tell 1)) 2) odd x (tell 5))", "(try (tell (call (fn (a) a))) odd x (add x 1))",
    "(try (tell (call 3)) kind x (call (fn (y) y) x))", "(try (if (make t) 1 2) kind x (tell x))",
    "(try (tell (fn () 1)) kind x (tell x))", "(try (add (make t) 1) kind x (tell x))",
    "(let h (mul 100000000000 1000000000) (try (mul h h) big x (tell x)))",
    "(try (match (raise oh (make t 1)) t (a) a 0) oh x (match x t (a) (tell a) 0))",
    "(try (raise kind 5) kind x x)", "(try (raise oh 5) no x x)", "(try (raise oh 5) oh x (raise oh (add x 1)))",
    "(try (try (raise oh 5) oh x (raise oh 6)) oh y (tell y))", "(try (try (raise oh 5) no x 6) oh y (tell y))",
    "(add (raise oh 5) (try 1 oh x 6))", "(add (try 1 oh x 6) (raise oh 5))",
    "(add 10 (try (add (tell 1) (raise oh 2)) oh x x))",
    "(let f (fn (g) (try (call g) oh x 2)) (try (call f (fn () (raise oh 1))) oh y 3))",
    "(let f (fn (g) (try (call g) no x 2)) (try (call f (fn () (raise oh 1))) oh y 3))",
    DOWN.format("(do (try (call f 49) oh x 0) (add 1 (call f 48)))"),
    DOWN.format("(do (try (call f 49) oh x 0) (add 1 (call f 50)))"),
    DOWN.format("(try (call f 20) oh x (try (call f 30) oh y 7))"),
    DOWN.format("(let g (fn () (try (call f 30) oh x (add 1 (call f 40)))) (try (add 1 (call g)) oh y 8))"),
    DOWN.format("(let g (fn () (try (call f 48) oh x (add 1 (call f 49)))) (add 1 (call g)))"),
    DOWN.format("(let g (fn () (try (call f 48) oh x (add 1 (call f 48)))) (add 1 (call g)))"),
    DOWN.format("(let g (fn () (try (call f 48) oh x (call f 49))) (add 1 (call g)))"),
    "(let x 1 (do (let x 2 (set x 3)) x))", "(let x 1 (let f (fn () x) (let x 2 (do (set x 3) (call f)))))",
    "(let x 1 (add x (do (set x 5) x)))", "(let x 1 (make t x (set x 2) x (fn () x)))",
    "(let x 1 (let f (fn (n) (set x n)) (let g (fn () x) (do (call f 8) (call g)))))",
    "(call (fn (x y) (let g (fn () (set x (add x y))) (do (call g) (do (set y 10) (call g))))) 1 2)",
    "(match (make t 1 2) t (x y) (let g (fn () (set y (add x 7))) (do (call g) (make u x y))) 0)",
    "(try (raise w 1) w x (let g (fn () (set x 7)) (do (call g) x)))",
    "(let mk (fn (n) (fn () (set n (add n 1)))) (let a (call mk 0) (let b (call mk 9) (make t (call a) (call b)))))",
    "(let y 2 (try (do (set y 3) (raise oh 4)) oh x (make t x y)))",
    "(let f (fn () (tell 1)) (try (raise oh 1) oh x (do (call f) (match 0 t () 2 (if 0 3 (call f))))))",
    "(let f (fn (n) (tell n)) (let g (fn (n) (if n (call f n) (try (call f n) no x (call f 7)))) "
    "(add (call g 0) (call g 1))))",
    "(let f 0 (do (set f (fn () (try (call f) oh x 1))) (call f)))",
    "(make t (ask) (ask) (ask) (make u (fn () 1)))",
]

# Programs whose things hold one another in many ways.
STORING = [
    "(let f 0 (do (set f (fn (n b) (if n (call f (sub n 1) (make t n b)) b))) (call f 30 0)))",
    "(let f 0 (do (set f (fn (n k) (if n (call f (sub n 1) (fn (x) (call k (add x n)))) (call k 0)))) "
    "(call f 20 (fn (x) x))))",
    "(let f 0 (do (set f (fn (n) (if n (make t n (call f (sub n 1))) (make e)))) (call f 25)))",
    "(let mk (fn (n) (fn () (set n (add n 1)))) (let a (call mk 1) (let b (call mk 2) "
    "(do (call a) (make t (call a) (call b) a b)))))",
    "(let x 0 (do (set x (make t (fn () x))) (let y (make u x x) (do (set x 0) (match y u (a b) (make v a b) 0)))))",
    "(let f (fn (n) (try (if n (raise oh (make t n)) (make u n)) oh e (make v e))) "
    "(make t (call f 0) (call f 1) (try (call f 2) no z 0)))",
    "(let b (make big 1 2 3 4) (let f (fn (g) (match (call g) t (x) (make u x b) 0)) (call f (fn () (make t 5)))))",
    "(let l 0 (let f 0 (do (set f (fn (n) (if n (do (set l (make c n l)) (call f (sub n 1))) 0))) "
    "(do (call f 12) (do (set l (make c 0)) (do (call f 6) l))))))",
]

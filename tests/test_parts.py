import copy
import unittest

from samples import HEADS, Chance, nested, number, one_of_each_kind, parts_of, tells_round, wide
from spacewright.errors import NoPart
from spacewright.parts import is_program
from spacewright.reading import write_program

NO_WORDS = ["", "abcdefghi", "A", "a1", "a b", "a_b", "-", "\u00e9", "a\n", 1, None, True, ("x",), ["x"], b"x", {}]
NO_NUMBERS = [True, False, 1.0, "1", None, (1,), [1], 10 ** 12, -(10 ** 12), 10 ** 90]
NO_PLACES = [-1, 600, True, False, 1.0, "0", None, (0,), [0]]
NO_PARTS = [None, True, 0, 1.5, "x", "number", b"", (), [], {}, (0,), ("number",), ("ask",), object(), int, len]


class NeverLike:
    """Can't be compared, kept in a dict, measured or walked."""

    __hash__ = None

    def __eq__(self, other):
        raise RuntimeError

    def __len__(self):
        raise RuntimeError

    def __iter__(self):
        raise RuntimeError

    def __bool__(self):
        raise RuntimeError


class AlwaysLike:
    def __eq__(self, other):
        return True

    def __hash__(self):
        return hash("number")


class OddText(str):
    __hash__ = None

    def __eq__(self, other):
        raise RuntimeError

    def __iter__(self):
        raise RuntimeError


class OddNumber(int):
    __hash__ = None

    def __eq__(self, other):
        raise RuntimeError

    def __lt__(self, other):
        raise RuntimeError


class OddTuple(tuple):
    def __len__(self):
        raise RuntimeError

    def __iter__(self):
        raise RuntimeError


class Case(unittest.TestCase):
    def good(self, thing):
        self.assertIs(is_program(thing), True, thing)

    def bad(self, thing):
        self.assertIs(is_program(thing), False)
        with self.assertRaises(NoPart):
            write_program(thing)


class Forms(Case):
    def test_each_kind(self):
        for program in one_of_each_kind():
            self.good(program)

    def test_chance_programs(self):
        chance = Chance(11)
        seen = {}
        for _ in range(300):
            program = chance.program()
            if len(parts_of(program)) <= 300:
                self.good(program)
                seen.update({part[0]: True for part in parts_of(program)})
        self.assertEqual(len(seen), 15)

    def test_any_other_thing(self):
        within = []
        within.append(within)
        ring = ["tell", 0]
        ring.append(tuple(ring))
        for thing in NO_PARTS + [within, tuple(ring), NeverLike(), AlwaysLike(), range(3), {1}, float("nan")]:
            self.bad(thing)

    def test_any_other_thing_anywhere(self):
        for program in one_of_each_kind():
            for index in range(len(program)):
                for thing in (None, 1.5, [], {}, {1}, object(), NeverLike(), AlwaysLike(), b"x", (NeverLike(),)):
                    self.bad(program[:index] + (thing,) + program[index + 1:])

    def test_a_thing_more_or_less(self):
        for program in one_of_each_kind():
            self.bad(program[:-1])
            self.bad(program + (number(99),))
            self.bad(program + (None,))
            self.bad(program[:1])

    def test_a_list_in_the_place_of_a_tuple(self):
        for program in one_of_each_kind():
            self.bad(list(program))
            for index, thing in enumerate(program):
                if isinstance(thing, tuple):
                    self.bad(program[:index] + (list(thing),) + program[index + 1:])

    def test_another_kind(self):
        for kind in ["add", "sub", "part", "block", "", "Number", "func", 0, None, ("number",), ["number"]]:
            self.bad((kind, 0, 5))
            self.bad((kind, 0, number(1), number(2)))

    def test_no_place(self):
        for program in one_of_each_kind():
            for place in NO_PLACES:
                self.bad(program[:1] + (place,) + program[2:])
        self.good(number(599))

    def test_no_number(self):
        for thing in NO_NUMBERS:
            self.bad(("number", 0, thing))
        for thing in (0, -1, 10 ** 12 - 1, 1 - 10 ** 12):
            self.good(("number", 0, thing))

    def test_names(self):
        for name in ("a", "z", "abcdefgh", "number", "math", "name"):
            for program in self.told_by(name, name):
                self.good(program)
        for name in NO_WORDS + HEADS:
            for program in self.told_by(name, name) + self.told_by("x", name):
                self.bad(program)

    def told_by(self, told, used):
        name = ("name", 9, used)
        return [
            ("let", 0, told, number(1), name),
            ("let", 0, told, number(1), ("set", 2, used, number(3))),
            ("fn", 0, ("b", told), name),
            ("match", 0, number(1), "tag", ("b", told), name, number(2)),
            ("try", 0, number(1), "word", told, name),
        ]

    def test_a_tag_or_word_may_be_any_word(self):
        for word in ["a", "abcdefgh"] + HEADS:
            for program in self.worded(word):
                self.good(program)
        for word in NO_WORDS:
            for program in self.worded(word):
                self.bad(program)

    def worded(self, word):
        return [
            ("make", 0, word, ()),
            ("match", 0, number(1), word, (), number(2), number(3)),
            ("raise", 0, word, number(1)),
            ("try", 0, number(1), word, "x", number(2)),
        ]

    def test_ops(self):
        for op in ["make", "x", "div", "", None, 1, ["add"], ("add",), "ADD"]:
            self.bad(("math", 0, op, number(1), number(2)))

    def test_names_that_are_alike(self):
        self.bad(("fn", 0, ("x", "x"), number(1)))
        self.bad(("fn", 0, ("x", "y", "z", "x"), number(1)))
        self.bad(("match", 0, number(1), "tag", ("x", "y", "x"), number(2), number(3)))

    def test_a_name_in_the_place_of_names(self):
        self.bad(("fn", 0, "x", number(1)))
        self.bad(("match", 0, number(1), "tag", "x", number(2), number(3)))
        self.bad(("let", 0, ("x",), number(1), number(2)))
        self.bad(("try", 0, number(1), "word", ("x",), number(2)))
        self.bad(("call", 0, number(1), number(2)))
        self.bad(("make", 0, "tag", number(1)))

    def test_a_thing_that_is_no_part_within(self):
        for program in one_of_each_kind():
            for index, thing in enumerate(program):
                if isinstance(thing, tuple) and thing and isinstance(thing[0], str) and len(thing) > 2:
                    for other in NO_PARTS:
                        self.bad(program[:index] + (other,) + program[index + 1:])
        for other in NO_PARTS:
            self.bad(("call", 0, number(1), (number(2), other)))
            self.bad(("make", 0, "tag", (other, number(1))))


class OddClasses(Case):
    def test_what_such_things_hold_is_looked_at(self):
        name = OddTuple((OddText("name"), OddNumber(3), OddText("x")))
        params = OddTuple((OddText("x"), OddText("y")))
        self.good(OddTuple((OddText("fn"), OddNumber(0), params, name)))
        alike = OddTuple((OddText("x"), OddText("x")))
        self.bad(OddTuple((OddText("fn"), OddNumber(0), alike, name)))
        self.bad(OddTuple((OddText("number"), OddNumber(600), OddNumber(1))))

    def test_they_are_written(self):
        name = OddTuple((OddText("name"), OddNumber(3), OddText("x")))
        text = write_program(OddTuple((OddText("fn"), OddNumber(0), OddTuple((OddText("x"),)), name)))
        self.assertEqual(text, "(fn (x) x)")
        self.assertEqual(write_program(("number", 0, OddNumber(7))), "7")
        self.assertIs(type(text), str)


class Scopes(Case):
    def test_where_a_name_is_there(self):
        x = ("name", 9, "x")
        one, two = number(1), number(2)
        self.good(("let", 0, "x", one, x))
        self.bad(("let", 0, "x", x, one))
        self.good(("fn", 0, ("x",), x))
        self.bad(("call", 0, ("fn", 1, ("x",), two), (x,)))
        self.good(("match", 0, one, "x", ("x",), x, two))
        self.bad(("match", 0, one, "x", ("x",), two, x))
        self.bad(("match", 0, x, "x", ("x",), one, two))
        self.good(("try", 0, one, "x", "x", x))
        self.bad(("try", 0, x, "x", "x", one))
        self.bad(x)
        self.bad(("do", 0, ("let", 1, "x", two, number(3)), x))
        self.bad(("do", 0, ("fn", 1, ("x",), two), x))

    def test_a_set_too(self):
        one, two = number(1), number(2)
        there = ("set", 8, "x", number(9))
        self.good(("let", 0, "x", one, there))
        self.bad(("let", 0, "x", there, one))
        self.bad(("let", 0, "y", one, there))
        self.good(("fn", 0, ("y", "x"), there))
        self.bad(("match", 0, one, "tag", ("x",), two, there))
        self.good(("try", 0, one, "word", "x", there))
        self.bad(("try", 0, there, "word", "x", one))
        self.bad(there)
        self.bad(("set", 0, "x", ("let", 1, "x", two, number(3))))

    def test_within_other_parts_and_functions(self):
        x = ("name", 9, "x")
        self.good(("let", 0, "x", number(1), ("fn", 2, ("y",), ("tell", 3, ("do", 4, number(5), x)))))
        self.good(("let", 0, "x", number(1), ("let", 2, "x", x, number(3))))
        self.good(("let", 0, "x", number(1), ("do", 2, ("let", 3, "x", number(4), number(5)), x)))
        self.bad(("fn", 0, ("y",), ("tell", 3, x)))


class Bounds(Case):
    def test_parts_within_one_another(self):
        self.good(nested(20))
        self.bad(nested(21))

    def test_each_kind_but_number_and_name_counts(self):
        for program in one_of_each_kind():
            compounds = [part for part in parts_of(program) if part[0] not in ("number", "name")]
            within = len(compounds)
            self.good(tells_round(20 - within, program, 100))
            self.bad(tells_round(21 - within, program, 100))

    def test_within_in_each_place_of_a_part(self):
        for many, told in ((19, self.good), (20, self.bad)):
            deep = tells_round(many, number(50), 51)
            told(("call", 0, deep, ()))
            told(("call", 0, number(1), (number(2), deep)))
            told(("make", 0, "tag", (number(2), deep)))
            told(("fn", 0, (), deep))
            told(("match", 0, number(1), "tag", (), number(2), deep))

    def test_far_more_within_one_another(self):
        for many in (100, 3000, 20000):
            self.bad(nested(many))
        deep = ()
        for _ in range(20000):
            deep = (deep,)
        self.bad(deep)
        for program in one_of_each_kind():
            for index in range(len(program)):
                self.bad(program[:index] + (deep,) + program[index + 1:])

    def test_a_part_that_stands_at_many_places(self):
        part = number(0)
        for place in range(1, 21):
            part = ("do", place, part, part)
        self.bad(part)

    def test_how_many_parts(self):
        for many in (1, 2, 299, 300):
            self.assertEqual(len(parts_of(wide(many))), many)
            self.good(wide(many))
        for many in (301, 302, 500):
            self.bad(wide(many))

    def test_places_are_unlike(self):
        self.bad(("do", 0, number(0), number(1)))
        self.bad(("do", 0, number(1), number(1)))
        self.bad(("do", 0, ("tell", 1, number(2)), ("tell", 3, number(1))))
        self.good(("do", 599, number(0), number(300)))

    def test_four_and_five(self):
        names = ("a", "b", "c", "d", "e")
        parts = tuple([number(place) for place in range(10, 15)])
        for many, told in ((4, self.good), (5, self.bad)):
            told(("fn", 0, names[:many], number(1)))
            told(("call", 0, number(1), parts[:many]))
            told(("make", 0, "tag", parts[:many]))
            told(("match", 0, number(1), "tag", names[:many], number(2), number(3)))


class Kept(Case):
    def test_nothing_is_changed_and_the_answer_is_the_same(self):
        for program in one_of_each_kind() + [list(one_of_each_kind()[1]), nested(30)]:
            kept = copy.deepcopy(program)
            self.assertEqual(is_program(program), is_program(program))
            self.assertEqual(program, kept)


if __name__ == "__main__":
    unittest.main()

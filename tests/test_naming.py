import copy
import unittest

from samples import many_programs, nested, one_of_each_kind, parts_of, wide
from shapes import NO_DEEDS, all_given, all_steps, canonical, check_well_made, n, place_of, x
from spacewright.errors import NoPart
from spacewright.naming import named
from spacewright.reading import read_program

DEED_WORDS = {"fn": "func", "call": "call", "set": "set", "if": "if", "math": "math", "make": "make",
              "match": "match", "raise": "raise", "tell": "tell", "ask": "ask"}


class Case(unittest.TestCase):
    def told(self, text, steps, last, places):
        """What a text is named as, but for the numbers of the names: in the steps these are texts."""
        body, told_places = named(read_program(text))
        order = all_given(body)
        self.assertEqual(sorted(order), list(range(len(told_places))))
        expected = canonical((tuple(steps), last), places)
        self.assertEqual(canonical(body, told_places), expected, text)


class Forms(Case):
    def test_numbers(self):
        self.told("7", [], n(7), {})
        self.told("-7", [], n(-7), {})

    def test_math(self):
        for op in ("add", "sub", "mul", "less", "same"):
            self.told("(" + op + " 1 2)", [("math", "a", op, n(1), n(2), 0)], x("a"), {"a": 0})
        self.told("(sub (ask) (ask))",
                  [("ask", "a", 5), ("ask", "b", 11), ("math", "c", "sub", x("a"), x("b"), 0)], x("c"),
                  {"a": 5, "b": 11, "c": 0})

    def test_make(self):
        self.told("(make t)", [("make", "a", "t", (), 0)], x("a"), {"a": 0})
        self.told("(make t (ask) 3 (ask) 4)",
                  [("ask", "a", 8), ("ask", "b", 16), ("make", "c", "t", (x("a"), n(3), x("b"), n(4)), 0)], x("c"),
                  {"a": 8, "b": 16, "c": 0})

    def test_raise_tell_ask(self):
        self.told("(raise w (tell (ask)))",
                  [("ask", "a", 15), ("tell", "b", x("a"), 9), ("raise", "c", "w", x("b"), 0)], x("c"),
                  {"a": 15, "b": 9, "c": 0})
        self.told("(tell 3)", [("tell", "a", n(3), 0)], x("a"), {"a": 0})

    def test_do(self):
        self.told("(do (ask) (tell 1))", [("ask", "a", 4), ("tell", "b", n(1), 10)], x("b"), {"a": 4, "b": 10})
        self.told("(do (ask) 5)", [("ask", "a", 4)], n(5), {"a": 4})
        self.told("(do 1 (do 2 3))", [], n(3), {})

    def test_fn(self):
        self.told("(fn () 1)", [("func", "a", (), ((), n(1)), 0)], x("a"), {"a": 0})
        self.told("(fn (a b) (sub b a))",
                  [("func", "f", ("p", "q"), ((("math", "m", "sub", x("q"), x("p"), 10),), x("m")), 0)], x("f"),
                  {"p": 0, "q": 0, "m": 10, "f": 0})
        self.told("(fn (a) (fn (b) (add a b)))",
                  [("func", "f", ("p",), ((("func", "g", ("q",),
                                            ((("math", "m", "add", x("p"), x("q"), 16),), x("m")), 8),), x("g")), 0)],
                  x("f"), {"p": 0, "q": 8, "m": 16, "g": 8, "f": 0})

    def test_call(self):
        self.told("(call (ask) 1 (ask))",
                  [("ask", "a", 6), ("ask", "b", 14), ("call", "c", x("a"), (n(1), x("b")), 0, True)], x("c"),
                  {"a": 6, "b": 14, "c": 0})
        self.told("(tell (call 1))", [("call", "a", n(1), (), 6, False), ("tell", "b", x("a"), 0)], x("b"),
                  {"a": 6, "b": 0})

    def test_if(self):
        self.told("(if (ask) (tell 1) 2)",
                  [("ask", "a", 4), ("if", "b", x("a"), ((("tell", "c", n(1), 10),), x("c")), ((), n(2)), 0)], x("b"),
                  {"a": 4, "c": 10, "b": 0})

    def test_match(self):
        self.told("(match (ask) t (a b) (add a b) (tell 1))",
                  [("ask", "o", 7),
                   ("match", "m", x("o"), "t", ("p", "q"), ((("math", "s", "add", x("p"), x("q"), 21),), x("s")),
                    ((("tell", "u", n(1), 31),), x("u")), 0)], x("m"),
                  {"o": 7, "p": 0, "q": 0, "s": 21, "u": 31, "m": 0})
        self.told("(match 1 t () 2 3)", [("match", "m", n(1), "t", (), ((), n(2)), ((), n(3)), 0)], x("m"), {"m": 0})

    def test_try(self):
        self.told("(try (ask) w e (tell e))",
                  [("try", "t", ((("ask", "a", 5),), x("a")), "w", "e", ((("tell", "u", x("e"), 15),), x("u")), 0)],
                  x("t"), {"a": 5, "e": 0, "u": 15, "t": 0})


class Bindings(Case):
    def test_a_let_that_is_not_set_stands_for_its_atom(self):
        self.told("(let x 5 (add x x))", [("math", "a", "add", n(5), n(5), 9)], x("a"), {"a": 9})
        self.told("(let x (ask) x)", [("ask", "a", 7)], x("a"), {"a": 7})
        self.told("(let x (ask) (let y x (make t y x)))", [("ask", "a", 7), ("make", "b", "t", (x("a"), x("a")), 22)],
                  x("b"), {"a": 7, "b": 22})
        self.told("(let x 1 2)", [], n(2), {})

    def test_a_let_that_is_set(self):
        self.told("(let x 5 (set x 6))", [("start", "s", n(5), 0), ("set", "a", "s", n(6), 9)], x("a"),
                  {"s": 0, "a": 9})
        self.told("(let x (ask) (do (tell x) (set x (add x 1))))",
                  [("ask", "a", 7), ("start", "s", x("a"), 0), ("read", "r", "s"), ("tell", "u", x("r"), 17),
                   ("read", "q", "s"), ("math", "m", "add", x("q"), n(1), 33), ("set", "e", "s", x("m"), 26)], x("e"),
                  {"a": 7, "s": 0, "r": 23, "u": 17, "q": 38, "m": 33, "e": 26})

    def test_a_read_for_each_name_part_in_its_turn(self):
        self.told("(let x 1 (add x (set x 2)))",
                  [("start", "s", n(1), 0), ("read", "r", "s"), ("set", "e", "s", n(2), 16),
                   ("math", "m", "add", x("r"), x("e"), 9)], x("m"), {"s": 0, "r": 14, "e": 16, "m": 9})
        self.told("(let x 1 (do (set x 2) x))",
                  [("start", "s", n(1), 0), ("set", "e", "s", n(2), 13), ("read", "r", "s")], x("r"),
                  {"s": 0, "e": 13, "r": 23})

    def test_set_within_a_function(self):
        self.told("(let x 1 (fn () (set x 2)))",
                  [("start", "s", n(1), 0), ("func", "f", (), ((("set", "e", "s", n(2), 16),), x("e")), 9)], x("f"),
                  {"s": 0, "e": 16, "f": 9})

    def test_parameters_that_are_set(self):
        self.told("(fn (a b) (do (set b a) b))",
                  [("func", "f", ("p", "q"),
                    ((("set", "e", "q", x("p"), 14), ("read", "r", "q")), x("r")), 0)], x("f"),
                  {"p": 0, "q": 0, "e": 14, "r": 24, "f": 0})

    def test_names_of_a_match_that_are_set(self):
        self.told("(match 1 t (a b) (do (set a b) a) 2)",
                  [("match", "m", n(1), "t", ("p", "q"),
                    ((("set", "e", "p", x("q"), 21), ("read", "r", "p")), x("r")), ((), n(2)), 0)], x("m"),
                  {"p": 0, "q": 0, "e": 21, "r": 31, "m": 0})

    def test_a_name_of_a_try_that_is_set(self):
        self.told("(try 1 w a (do (set a 2) a))",
                  [("try", "t", ((), n(1)), "w", "p", ((("set", "e", "p", n(2), 15), ("read", "r", "p")), x("r")), 0)],
                  x("t"), {"p": 0, "e": 15, "r": 25, "t": 0})

    def test_a_name_that_hides_another_one(self):
        self.told("(let x 1 (do (let x 2 (set x 3)) x))",
                  [("start", "s", n(2), 13), ("set", "e", "s", n(3), 22)], n(1), {"s": 13, "e": 22})
        self.told("(let x 1 (let x (set x 2) x))", [("start", "s", n(1), 0), ("set", "e", "s", n(2), 16)], x("e"),
                  {"s": 0, "e": 16})
        self.told("(let x 1 (do (set x 2) (let x 3 x)))",
                  [("start", "s", n(1), 0), ("set", "e", "s", n(2), 13)], n(3), {"s": 0, "e": 13})
        self.told("(let x 1 (fn (x) (set x 2)))",
                  [("func", "f", ("p",), ((("set", "e", "p", n(2), 17),), x("e")), 9)], x("f"),
                  {"p": 9, "e": 17, "f": 9})
        self.told("(fn (x) (match x t (x) (set x x) x))",
                  [("func", "f", ("p",),
                    ((("match", "m", x("p"), "t", ("q",),
                       ((("read", "r", "q"), ("set", "e", "q", x("r"), 23)), x("e")), ((), x("p")), 8),), x("m")), 0)],
                  x("f"), {"p": 0, "q": 8, "r": 30, "e": 23, "m": 8, "f": 0})
        self.told("(let x 1 (try x w x (set x 2)))",
                  [("try", "t", ((), n(1)), "w", "p", ((("set", "e", "p", n(2), 20),), x("e")), 9)], x("t"),
                  {"p": 9, "e": 20, "t": 9})


class LastPlaces(Case):
    def lasts(self, text, *lasts):
        """Whether the calls are in last place, in the order of their places."""
        body, places = named(read_program(text))
        calls = [step for step in all_steps(body) if step[0] == "call"]
        self.assertEqual([step[5] for step in sorted(calls, key=place_of)], list(lasts), text)

    def test_in_last_place(self):
        for text in ("(call 1)", "(let x 1 (call 1))", "(do 1 (call 1))", "(if 1 (call 1) 2)", "(if 1 2 (call 1))",
                     "(match 1 t () (call 1) 2)", "(match 1 t () 2 (call 1))", "(try 1 w x (call 1))"):
            self.lasts(text, True)
            self.lasts("(fn () " + text + ")", True)
            self.lasts("(tell (fn () " + text + "))", True)
            self.lasts("(try (fn () " + text + ") w x 2)", True)
            self.lasts("(let x 1 (do 2 " + text + "))", True)
            self.lasts("(if 1 (try 2 w x " + text + ") 3)", True)
            self.lasts("(tell " + text + ")", False)
            self.lasts("(try " + text + " w x 2)", False)
            self.lasts("(let x " + text + " 2)", False)
            self.lasts("(do " + text + " 2)", False)

    def test_in_no_last_place(self):
        for text in ("(tell (call 1))", "(try (call 1) w x 2)", "(let x (call 1) 2)", "(do (call 1) 2)",
                     "(if (call 1) 2 3)", "(match (call 1) t () 2 3)", "(add (call 1) 2)", "(add 1 (call 1))",
                     "(make t (call 1))", "(raise w (call 1))", "(let x 1 (set x (call 1)))", "(let x (call 1) x)"):
            self.lasts(text, False)
            self.lasts("(fn () " + text + ")", False)
        self.lasts("(call (call 1) (call 2))", True, False, False)
        self.lasts("(if 1 (do (call 1) (call 2)) (call 3))", False, True, True)


class Whole(Case):
    def test_what_is_no_program_is_refused(self):
        for thing in (None, 1, "1", "(ask)", (), [], {}, ("number", 0), ("name", 0, "x"), ("number", 600, 1),
                      ["number", 0, 1], nested(21), wide(301), object(), (((), ("number", 1)), ()),
                      ("do", 0, ("ask", 1), ("ask", 1)), ("set", 0, "x", ("number", 1, 2))):
            with self.assertRaises(NoPart):
                named(thing)

    def test_nothing_is_changed_and_the_answer_is_the_same(self):
        for program in one_of_each_kind():
            kept = copy.deepcopy(program)
            self.assertEqual(named(program), named(program))
            self.assertEqual(program, kept)

    def test_each_name_once_and_numbers_without_a_gap(self):
        for program in many_programs(41):
            body, places = named(program)
            self.assertEqual(sorted(all_given(body)), list(range(len(places))))
            check_well_made(self, body)
            self.assertEqual((type(body), type(places)), (tuple, tuple))

    def test_a_step_for_each_deed(self):
        for program in many_programs(41):
            body, places = named(program)
            steps = [(step[0], place_of(step)) for step in all_steps(body) if step[0] not in NO_DEEDS]
            parts = [(DEED_WORDS[part[0]], part[1]) for part in parts_of(program) if part[0] in DEED_WORDS]
            self.assertEqual(sorted(steps), sorted(parts))

    def test_the_place_of_each_name(self):
        for program in many_programs(41):
            body, places = named(program)
            kinds = {part[1]: part[0] for part in parts_of(program)}
            for step in all_steps(body):
                if step[0] == "read":
                    self.assertEqual(kinds[places[step[1]]], "name")
                else:
                    self.assertEqual(places[step[1]], place_of(step))
                if step[0] == "start":
                    self.assertEqual(kinds[place_of(step)], "let")
                begun = {"func": step[2], "match": step[4:5], "try": step[4:5]}.get(step[0], ())
                for name in begun[0] if step[0] == "match" else begun:
                    self.assertEqual(places[name], place_of(step))


if __name__ == "__main__":
    unittest.main()

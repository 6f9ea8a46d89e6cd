import copy
import unittest

from samples import TEXTS_TO_RUN, chance_programs, lively_programs, nested, one_of_each_kind, wide
from shapes import body, check_well_made, n, x
from spacewright.boxing import boxed
from spacewright.namedrun import run_named
from spacewright.naming import named
from spacewright.reading import read_program
from spacewright.sourcerun import run_source

BOXED_WORDS = {"start": "box", "read": "load", "set": "store"}


def with_boxes(thing):
    """The same with boxes, loads and stores in the place of all starts, reads and sets."""
    if isinstance(thing, tuple):
        if thing and thing[0] in BOXED_WORDS and len(thing) > 2:
            return (BOXED_WORDS[thing[0]],) + thing[1:]
        return tuple([with_boxes(one) for one in thing])
    return thing


class Case(unittest.TestCase):
    def told(self, whole, run, inputs=(), most=1000):
        """The run is told of the body as it stands, and with boxes in the place of starts."""
        check_well_made(self, whole)
        self.assertEqual(run_named((whole, ()), list(inputs), most), run)
        self.assertEqual(run_named((with_boxes(whole), ()), list(inputs), most), run)

    def value(self, whole, value, deeds=(), log=(), inputs=(), deepest=0):
        self.told(whole, (("value", value), list(log), list(deeds), deepest), inputs)

    def fault(self, whole, fault, deeds=(), log=()):
        self.told(whole, (("fault",) + fault, list(log), list(deeds), 0))


class Steps(Case):
    def test_no_steps(self):
        self.value(body(n(-7)), -7)

    def test_math(self):
        for op, value in (("add", 9), ("sub", 5), ("mul", 14), ("less", 0), ("same", 0)):
            self.value(body(("math", 0, op, n(7), n(2), 900), x(0)), value, [900])
        block = ("make", 0, "t", (), 5)
        self.fault(body(block, ("math", 1, "add", x(0), n(2), 6), x(1)), ("kind", 0, 6), [5, 6])
        self.fault(body(block, ("math", 1, "add", n(2), x(0), 6), x(1)), ("kind", 0, 6), [5, 6])
        self.fault(body(("math", 0, "mul", n(10 ** 20), n(10 ** 20), 8), ("ask", 1, 9), x(1)), ("big", 0, 8), [8])

    def test_make(self):
        self.value(body(("make", 0, "t", (), 3), x(0)), ("block", "t", ()), [3])
        self.value(body(("ask", 4, 2), ("make", 0, "t", (x(4), n(1), x(4)), 3), x(0)), ("block", "t", (6, 1, 6)),
                   [2, 3], inputs=[6])

    def test_tell_and_ask(self):
        self.value(body(("ask", 0, 7), ("tell", 1, x(0), 8), ("ask", 2, 7), ("tell", 3, x(2), 8), ("ask", 4, 7), x(1)),
                   5, [7, 8, 7, 8, 7], [5, -6], [5, -6])
        self.fault(body(("tell", 1, n(3), 1), ("make", 0, "t", (), 2), ("tell", 4, x(0), 3), x(1)), ("kind", 0, 3),
                   [1, 2, 3], [3])
        self.value(body(("tell", 1, n(3), 1), x(1)), 3, [1], [3])

    def test_raise(self):
        self.fault(body(("raise", 0, "oh", n(4), 50), ("ask", 1, 2), x(1)), ("oh", 4, 50), [50])
        self.fault(body(("make", 3, "t", (n(1),), 9), ("raise", 0, "kind", x(3), 50), x(0)),
                   ("kind", ("block", "t", (1,)), 50), [9, 50])

    def test_func(self):
        self.value(body(("func", 0, (1,), body(("ask", 2, 9), x(2)), 40), x(0)), ("fn", 40), [40])

    def test_call(self):
        func = ("func", 0, (1, 2), body(("math", 3, "sub", x(1), x(2), 41), x(3)), 40)
        self.value(body(func, ("call", 4, x(0), (n(9), n(2)), 42, True), x(4)), 7, [40, 42, 41])
        self.value(body(func, ("call", 4, x(0), (n(9), n(2)), 42, False), x(4)), 7, [40, 42, 41], deepest=1)
        self.value(body(func, ("call", 4, x(0), (n(9), n(2)), 42, False), n(1)), 1, [40, 42, 41], deepest=1)
        self.fault(body(func, ("call", 4, x(0), (n(9),), 42, False), x(4)), ("odd", 0, 42), [40, 42])
        self.fault(body(func, ("call", 4, n(0), (n(9),), 42, True), x(4)), ("kind", 0, 42), [40, 42])
        self.fault(body(("make", 0, "t", (), 3), ("call", 4, x(0), (), 42, False), x(4)), ("kind", 0, 42), [3, 42])

    def test_if(self):
        def whole(value):
            return body(("ask", 0, 1), ("if", 1, value, body(("tell", 2, n(5), 3), x(2)),
                                        body(("tell", 3, n(6), 4), n(9)), 2), x(1))

        self.value(whole(x(0)), 5, [1, 2, 3], [5], [1])
        self.value(whole(x(0)), 5, [1, 2, 3], [5], [-1])
        self.value(whole(x(0)), 9, [1, 2, 4], [6], [0])
        self.fault(body(("func", 9, (), body(n(1)), 8), ("if", 0, x(9), body(n(1)), body(n(2)), 7), x(0)),
                   ("kind", 0, 7), [8, 7])

    def test_match(self):
        def whole(*fields):
            return body(("make", 0, "t", fields, 1),
                        ("match", 1, x(0), "t", (2, 3), body(("math", 4, "sub", x(2), x(3), 5), x(4)),
                         body(("tell", 5, n(6), 6), x(5)), 4), x(1))

        self.value(whole(n(9), n(2)), 7, [1, 4, 5])
        self.value(whole(n(9)), 6, [1, 4, 6], [6])
        other = ("match", 1, n(3), "t", (), body(n(1)), body(n(2)), 4)
        self.value(body(other, x(1)), 2, [4])
        other = ("match", 1, x(0), "u", (), body(n(1)), body(n(2)), 4)
        self.value(body(("make", 0, "t", (), 3), other, x(1)), 2, [3, 4])
        self.value(body(("func", 0, (), body(n(1)), 3), other, x(1)), 2, [3, 4])

    def test_try(self):
        def whole(word):
            one = body(("ask", 1, 1), ("raise", 2, "oh", x(1), 2), ("ask", 3, 3), x(3))
            return body(("try", 0, one, word, 4, body(("tell", 5, x(4), 6), x(5)), 7), x(0))

        self.value(whole("oh"), 8, [1, 2, 6], [8], [8])
        self.fault(whole("no"), ("oh", 0, 2), [1, 2])
        self.value(body(("try", 0, body(n(3)), "oh", 4, body(n(5)), 7), x(0)), 3)

    def test_start_read_set(self):
        self.value(body(("start", 0, n(3), 1), ("read", 1, 0), ("set", 2, 0, n(4), 5), ("read", 3, 0),
                        ("make", 4, "t", (x(1), x(2), x(3)), 6), x(4)), ("block", "t", (3, 4, 4)), [5, 6])

    def test_a_parameter_that_is_set(self):
        func = ("func", 0, (1, 2), body(("read", 3, 1), ("set", 4, 1, x(2), 8), ("read", 5, 1),
                                        ("make", 6, "t", (x(3), x(5)), 9), x(6)), 7)
        self.value(body(func, ("call", 7, x(0), (n(1), n(2)), 10, True), x(7)), ("block", "t", (1, 2)), [7, 10, 8, 9])

    def test_names_of_a_match_and_of_a_try_that_are_set(self):
        yes = body(("set", 2, 1, n(5), 3), ("read", 3, 1), x(3))
        self.value(body(("make", 9, "t", (n(4),), 1), ("match", 0, x(9), "t", (1,), yes, body(n(0)), 2), x(0)), 5,
                   [1, 2, 3])
        one = body(("raise", 8, "w", n(4), 1), x(8))
        self.value(body(("try", 0, one, "w", 1, yes, 2), x(0)), 5, [1, 3])

    def test_what_is_no_deed(self):
        whole = body(("start", 0, n(3), 1), ("try", 1, body(("read", 2, 0), x(2)), "w", 3, body(n(1)), 4), x(1))
        self.told(whole, (("value", 3), [], [], 0), most=0)
        for step in (("math", 0, "add", n(1), n(2), 5), ("make", 0, "t", (), 5), ("tell", 0, n(1), 5), ("ask", 0, 5),
                     ("raise", 0, "w", n(1), 5), ("func", 0, (), body(n(1)), 5), ("call", 0, n(1), (), 5, False),
                     ("if", 0, n(1), body(n(1)), body(n(2)), 5), ("match", 0, n(1), "t", (), body(n(1)), body(n(2)), 5)):
            self.told(body(step, n(1)), (("dry",), [], [], 0), most=0)
        self.told(body(("start", 0, n(1), 1), ("set", 2, 0, n(1), 5), n(1)), (("dry",), [], [], 0), most=0)


class Frames(Case):
    def test_a_function_uses_the_names_round_it(self):
        whole = body(("ask", 9, 1), ("func", 0, (1,), body(("func", 2, (3,), body(
            ("make", 4, "t", (x(9), x(1), x(3)), 5), x(4)), 6), x(2)), 7),
            ("call", 5, x(0), (n(20),), 8, False), ("call", 6, x(0), (n(30),), 8, False),
            ("call", 7, x(5), (n(40),), 9, False), ("call", 8, x(6), (n(50),), 9, False),
            ("match", 10, x(7), "t", (11, 12, 13), body(
                ("match", 14, x(8), "t", (15, 16, 17), body(("make", 18, "u", (x(12), x(13), x(16), x(17)), 11), x(18)),
                 body(n(0)), 12), x(14)), body(n(0)), 13), x(10))
        self.value(whole, ("block", "u", (20, 40, 30, 50)), [1, 7, 8, 6, 8, 6, 9, 5, 9, 5, 13, 12, 11], inputs=[10],
                   deepest=1)

    def test_names_are_given_anew_in_each_call(self):
        counter = ("func", 0, (), body(("start", 1, n(0), 2), ("func", 2, (), body(
            ("read", 3, 1), ("math", 4, "add", x(3), n(1), 3), ("set", 5, 1, x(4), 4), x(5)), 5), x(2)), 6)
        whole = body(counter, ("call", 10, x(0), (), 7, False), ("call", 11, x(0), (), 7, False),
                     ("call", 12, x(10), (), 8, False), ("call", 13, x(10), (), 8, False),
                     ("call", 14, x(11), (), 8, False), ("make", 15, "t", (x(12), x(13), x(14)), 9), x(15))
        self.value(whole, ("block", "t", (1, 2, 1)), [6, 7, 5, 7, 5, 8, 3, 4, 8, 3, 4, 8, 3, 4, 9], deepest=1)

    def test_names_of_a_call_outlast_calls_within_it(self):
        inside = body(("if", 3, x(2), body(("math", 4, "sub", x(2), n(1), 9), ("read", 5, 0),
                                           ("call", 6, x(5), (x(4),), 9, False),
                                           ("math", 7, "add", x(2), x(6), 9), x(7)), body(n(0)), 9), x(3))
        whole = body(("start", 0, n(0), 9), ("func", 1, (2,), inside, 9), ("set", 8, 0, x(1), 9),
                     ("call", 10, x(8), (n(4),), 9, True), x(10))
        self.told(whole, (("value", 10), [], [9] * 20, 4))

    def test_other_of_a_try_in_the_frame_of_the_try(self):
        thrower = ("func", 0, (1,), body(("raise", 2, "oh", x(1), 3), x(2)), 4)
        whole = body(thrower, ("ask", 5, 5), ("try", 6, body(("call", 7, x(0), (n(8),), 6, False), x(7)), "oh", 8,
                                              body(("math", 9, "add", x(8), x(5), 7), x(9)), 8), x(6))
        self.value(whole, 18, [4, 5, 6, 3, 7], inputs=[10], deepest=1)

    def test_calls_are_dropped_to_those_at_the_beginning_of_the_try(self):
        raiser = ("func", 0, (), body(("raise", 1, "oh", n(8), 3), x(1)), 2)
        between = ("func", 2, (3,), body(("call", 4, x(3), (), 5, False), ("ask", 5, 6), x(5)), 4)
        other = body(("call", 10, x(0), (), 9, False), x(10))
        trier = ("func", 6, (), body(
            ("try", 7, body(("call", 8, x(2), (x(0),), 8, False), x(8)), "oh", 9, other, 10), ("ask", 11, 11), x(7)), 7)
        whole = body(raiser, between, trier, ("call", 12, x(6), (), 12, False), x(12))
        self.told(whole, (("fault", "oh", 8, 3), [], [2, 4, 7, 12, 8, 5, 3, 9, 3], 3))
        outer = ("try", 13, body(("call", 12, x(6), (), 12, False), x(12)), "oh", 14, body(x(14)), 13)
        self.value(body(raiser, between, trier, outer, x(13)), 8, [2, 4, 7, 12, 8, 5, 3, 9, 3], deepest=3)

    def test_a_fault_of_a_call_that_is_caught(self):
        func = ("func", 0, (1,), body(("ask", 2, 9), x(2)), 8)
        for one, word in ((x(0), "odd"), (n(0), "kind")):
            for last in (body(x(5)), body(("tell", 6, x(5), 5), n(4))):
                whole = body(func, ("try", 3, body(("call", 4, one, (), 7, False), x(4)), word, 5, last, 6), x(3))
                value, log = (0, []) if last == body(x(5)) else (4, [0])
                self.value(whole, value, [8, 7] + [5] * len(log), log)

    def test_loops_in_last_place(self):
        def looped(last_one, *steps):
            inside = body(("read", 3, 0), ("if", 4, n(1), body(*steps, ("call", 5, x(3), (), 7, last_one), x(5)),
                                           body(n(0)), 6), x(4))
            return body(("start", 0, n(0), 1), ("func", 1, (), inside, 2), ("set", 2, 0, x(1), 3),
                        ("call", 6, x(2), (), 4, last_one), x(6))

        self.told(looped(True), (("dry",), [], [2, 3, 4] + [6, 7] * 998 + [6], 0), most=2000)
        self.told(looped(False), (("deep", 7), [], [2, 3, 4] + [6, 7] * 50, 50), most=2000)
        tried = ("try", 9, body(("raise", 10, "w", n(1), 8), x(10)), "w", 11, body(n(1)), 9)
        self.told(looped(True, tried), (("dry",), [], ([2, 3, 4] + [6, 8, 7] * 700)[:2000], 0), most=2000)

    def test_a_loop_through_the_other_of_a_try(self):
        other = body(("read", 8, 0), ("call", 9, x(8), (), 5, True), x(9))
        inside = body(("try", 3, body(("raise", 4, "w", n(1), 4), x(4)), "w", 5, other, 6), x(3))
        whole = body(("start", 0, n(0), 1), ("func", 1, (), inside, 2), ("set", 2, 0, x(1), 3),
                     ("call", 6, x(2), (), 3, True), x(6))
        self.told(whole, (("dry",), [], ([2, 3, 3] + [4, 5] * 1000)[:2000], 0), most=2000)

    def test_an_if_within_the_if_of_a_long_row(self):
        whole = body(n(1))
        for name in range(0, 90, 2):
            whole = body(("if", name, n(1), body(*whole[0], ("ask", name + 1, 3), x(name + 1)), body(n(2)), 4), x(name))
        self.value(whole, 45, [4] * 45 + [3] * 45, inputs=list(range(1, 46)))


class Programs(unittest.TestCase):
    def same(self, program, inputs, most):
        run = run_source(program, inputs, most)
        first = named(program)
        self.assertEqual(run_named(first, inputs, most), run, program)
        self.assertEqual(run_named(boxed(first), inputs, most), run, program)
        return run

    def test_texts(self):
        for text in TEXTS_TO_RUN:
            program = read_program(text)
            for most in list(range(12)) + [1000]:
                self.same(program, [6, 7], most)

    def test_lively_programs(self):
        for program in lively_programs(51, 500) + lively_programs(52, 100, depth=7):
            self.same(program, [3, 1, -2, 5], 600)

    def test_inputs(self):
        for program in lively_programs(53, 150, wrong=0):
            for inputs in ([], [0], [1, 0, 2, 7, 7, 7], [10 ** 29, -(10 ** 29)] * 10):
                self.same(program, inputs, 200)

    def test_each_bound(self):
        for program in lively_programs(54, 80):
            many = len(self.same(program, [2], 50)[2])
            for most in range(many + 2):
                self.same(program, [2], most)

    def test_chance_programs(self):
        for program in chance_programs(55, 300):
            self.same(program, [1], 50)

    def test_large_and_deep_ones(self):
        for program in one_of_each_kind() + [nested(20), wide(300)]:
            self.same(program, [4], 1000)
        inside = "(add 1 " * 13 + "(call f (sub n 1))" + ")" * 13
        text = "(let f 0 (do (set f (fn (n) (if n " + inside + " 0))) (add 0 (call f 49))))"
        self.assertEqual(self.same(read_program(text), [], 2000)[0], ("value", 13 * 49))

    def test_loops_as_long_as_the_bound_lets(self):
        for again in ("(call f)", "(try (raise w 1) w e (call f))", "(match (make t 1) t (x) (call f) 0)"):
            text = "(let f 0 (do (set f (fn () " + again + ")) (call f)))"
            end, log, deeds, deepest = self.same(read_program(text), [], 2000)
            self.assertEqual((end, len(deeds), deepest), (("dry",), 2000, 0))

    def test_the_bound_left_out(self):
        first = named(read_program("(let f 0 (do (set f (fn () (call f))) (call f)))"))
        self.assertEqual(len(run_named(first, [])[2]), 1000)

    def test_nothing_is_changed_and_the_answer_is_the_same(self):
        first = named(read_program("(let x (ask) (do (tell (set x (add x (ask)))) x))"))
        kept, inputs = copy.deepcopy(first), [4, 5]
        run = run_named(first, inputs)
        again = copy.deepcopy(run)
        self.assertEqual(run, (("value", 9), [9], run[2], 0))
        run[1].clear()
        run[2].clear()
        self.assertEqual((run_named(first, inputs), inputs, first), (again, [4, 5], kept))


if __name__ == "__main__":
    unittest.main()

import copy
import unittest

from model import model_run
from samples import TEXTS_TO_RUN, chance_programs, lively_programs, nested, one_of_each_kind, parts_of, wide
from spacewright.errors import NoPart
from spacewright.reading import read_program
from spacewright.sourcerun import run_source


def at(text, piece, nth=0):
    """The place of the nth piece in the text."""
    place = text.index(piece)
    for _ in range(nth):
        place = text.index(piece, place + 1)
    return place


class Case(unittest.TestCase):
    def told(self, text, inputs=(), most=1000):
        return run_source(read_program(text), list(inputs), most)

    def value(self, text, value, log=(), inputs=(), most=1000):
        end, said, deeds, deepest = self.told(text, inputs, most)
        self.assertEqual((end, said), (("value", value), list(log)), text)

    def fault(self, text, word, value, piece, nth=0, log=()):
        end, said, deeds, deepest = self.told(text)
        self.assertEqual((end, said), (("fault", word, value, at(text, piece, nth)), list(log)), text)

    def deeds(self, text, *pieces):
        """The deeds are those of the pieces, in this order; each stands but once in the text."""
        self.assertEqual(self.told(text)[2], [at(text, piece) for piece in pieces], text)


class Scopes(Case):
    def test_numbers_and_names_do_nothing(self):
        self.assertEqual(self.told("-5", most=0), (("value", -5), [], [], 0))
        self.assertEqual(self.told("(let x 7 (do x x))", most=0), (("value", 7), [], [], 0))

    def test_let_and_do(self):
        self.value("(let x (tell 1) (do (tell 2) (add x (tell 3))))", 4, [1, 2, 3])
        self.value("(do (tell 1) (let x 9 (do (tell x) 5)))", 5, [1, 9])

    def test_the_one_of_a_let_is_out_of_its_scope(self):
        self.value("(let x 1 (let x (add x 1) (let x (add x 1) x)))", 3)

    def test_a_later_binding_hides_an_outer_one_and_leaves_its_cell(self):
        self.value("(let x 1 (do (let x 2 (set x 3)) x))", 1)
        self.value("(let x 1 (do (call (fn (x) (set x 3)) 2) x))", 1)
        self.value("(let x 1 (do (match (make t 2) t (x) (set x 3) 0) x))", 1)
        self.value("(let x 1 (do (try (raise w 2) w x (set x 3)) x))", 1)
        self.value("(let x 1 (let f (fn () x) (let x 2 (do (set x 3) (call f)))))", 1)
        self.value("(let x 1 (do (set x 2) (let x 5 (do (set x 6) (tell x)))))", 6, [6])

    def test_functions_share_the_cells_of_their_scope(self):
        self.value("(let x 1 (let f (fn () (set x (add x 1))) (do (call f) (do (call f) x))))", 3)
        self.value("(let x 1 (let f (fn () x) (do (set x 5) (call f))))", 5)
        self.value("(let x 1 (let f (fn (n) (set x n)) (let g (fn () x) (do (call f 8) (call g)))))", 8)
        self.value("(call (fn (x) (let g (fn () x) (do (set x 4) (call g)))) 1)", 4)
        self.value("(match (make t 1) t (x) (let g (fn () (set x 7)) (do (call g) x)) 0)", 7)
        self.value("(try (raise w 1) w x (let g (fn () (set x 7)) (do (call g) x)))", 7)

    def test_a_new_cell_each_time(self):
        counter = "(let mk (fn (n) (fn () (set n (add n 1)))) "
        self.value(counter + "(let a (call mk 0) (let b (call mk 10) (do (call a) (do (call b) (call a))))))", 2)
        self.value(counter + "(let a (call mk 0) (let b (call mk 10) (do (call a) (do (call a) (call b))))))", 11)
        lets = "(let mk (fn () (let n 0 (fn () (set n (add n 1))))) "
        self.value(lets + "(let a (call mk) (let b (call mk) (do (call a) (do (call a) (call b))))))", 1)
        matches = "(let mk (fn (m) (match m t (n) (fn () (set n (add n 1))) 0)) (let m (make t 5) "
        self.value(matches + "(let a (call mk m) (let b (call mk m) (do (call a) (call b))))))", 6)
        self.value(matches + "(do (call (call mk m)) (match m t (n) n 0))))", 5)
        tries = "(let mk (fn () (try (raise w 3) w n (fn () (set n (add n 1))))) "
        self.value(tries + "(let a (call mk) (let b (call mk) (do (call a) (call b)))))", 4)

    def test_a_parameter_has_a_new_cell_in_each_call(self):
        self.value("(let f 0 (do (set f (fn (n) (if n (do (call f (sub n 1)) n) 0))) (call f 3)))", 3)
        text = "(let f (fn (n) (let was n (do (set n 9) was))) (do (call f 1) (call f 2)))"
        self.value(text, 2)

    def test_a_function_is_done_in_its_own_scope(self):
        self.value("(let x 1 (let f (fn (y) (add x y)) (let x 100 (call f 2))))", 3)
        self.value("(let x 1 (let f (fn (y) (add x y)) (call (fn (x) (call f 2)) 100)))", 3)


class Deeds(Case):
    def test_operands_from_left_to_right_and_then_the_deed(self):
        self.deeds("(add (tell 1) (tell 2))", "(tell 1", "(tell 2", "(add")
        self.deeds("(make t (tell 1) (tell 2) (tell 3) (tell 4))",
                   "(tell 1", "(tell 2", "(tell 3", "(tell 4", "(make")
        self.deeds("(call (do (tell 1) (fn (x y) (tell 4))) (tell 2) (tell 3))",
                   "(tell 1", "(fn", "(tell 2", "(tell 3", "(call", "(tell 4")
        self.deeds("(let x 0 (set x (tell 1)))", "(tell 1", "(set")
        self.deeds("(if (tell 1) (tell 2) (tell 3))", "(tell 1", "(if", "(tell 2")
        self.deeds("(if (tell 0) (tell 2) (tell 3))", "(tell 0", "(if", "(tell 3")
        self.deeds("(match (make t) t () (tell 2) (tell 3))", "(make", "(match", "(tell 2")
        self.deeds("(match (tell 1) t () (tell 2) (tell 3))", "(tell 1", "(match", "(tell 3")
        self.deeds("(raise w (tell 1))", "(tell 1", "(raise")
        self.deeds("(tell (ask))", "(ask", "(tell")
        self.deeds("(fn () (tell 1))", "(fn")
        self.deeds("(try (tell 1) w x (tell 2))", "(tell 1")
        self.deeds("(try (raise w 1) w x (tell 2))", "(raise", "(tell 2")
        self.deeds("(let x (tell 1) (do (tell 2) x))", "(tell 1", "(tell 2")

    def test_noted_ahead_of_its_fault(self):
        self.deeds("(add 1 (fn () 2))", "(fn", "(add")
        self.deeds("(call 1 (tell 2))", "(tell", "(call")
        self.deeds("(if (fn () 1) 2 3)", "(fn", "(if")
        self.deeds("(tell (make t))", "(make", "(tell")
        self.deeds("(mul (add 1 (make t)) (tell 2))", "(make", "(add")

    def test_dry_at_each_deed(self):
        text = ("(let f (fn (x) (do (set x (ask)) (match (make t x) t (y) (if y (tell y) 0) 0)))"
                " (try (raise w (call f 2)) w z (call f z)))")
        whole = self.told(text, [3, 4])
        self.assertEqual(whole[0], ("value", 4))
        for most in range(len(whole[2])):
            end, log, deeds, deepest = self.told(text, [3, 4], most)
            self.assertEqual((end, deeds), (("dry",), whole[2][:most]))
            told = [place for place in deeds if place == at(text, "(tell")]
            self.assertEqual(log, [3, 4][:len(told)])
            self.assertEqual(deepest, 1 if at(text, "(call f 2") in deeds else 0)
        self.assertEqual(self.told(text, [3, 4], len(whole[2])), whole)

    def test_dry_is_no_fault(self):
        self.assertEqual(self.told("(try (tell 1) dry x 2)", most=0), (("dry",), [], [], 0))

    def test_the_bound_left_out(self):
        text = "(let f 0 (do (set f (fn () (call f))) (call f)))"
        end, log, deeds, deepest = run_source(read_program(text), [])
        self.assertEqual((end, len(deeds)), (("dry",), 1000))


class Kinds(Case):
    def test_fn(self):
        self.value("(fn (x) x)", ("fn", 0))
        self.value("(let f (fn () 1) f)", ("fn", 7))

    def test_call(self):
        self.value("(call (fn () 5))", 5)
        self.value("(call (fn (a b c d) (make t d c b a)) 1 2 3 4)", ("block", "t", (4, 3, 2, 1)))
        self.value("(call (call (fn (x) (fn (y) (sub x y))) 7) 2)", 5)

    def test_call_of_what_is_no_function(self):
        for one in ("1", "(make t)"):
            self.fault("(call " + one + ")", "kind", 0, "(call")
            self.fault("(call " + one + " 1 2)", "kind", 0, "(call")

    def test_call_with_another_number_of_arguments(self):
        self.fault("(call (fn () 5) 1)", "odd", 0, "(call")
        self.fault("(call (fn (x) 5))", "odd", 0, "(call")
        self.fault("(call (fn (a b c d) 5) 1 2 3)", "odd", 0, "(call")
        self.fault("(add 1 (call (fn (x) (tell 5))))", "odd", 0, "(call")

    def test_a_call_that_faults_is_not_entered(self):
        for text in ("(add 1 (call 2))", "(add 1 (call (fn (x) 1)))"):
            self.assertEqual(self.told(text)[3], 0)
        deep = "(let f 0 (do (set f (fn (n) (if n (add 1 (call f (sub n 1))) (add 1 (call {}))))) (add 1 (call f 49))))"
        self.assertEqual(self.told(deep.format("7"))[0][:3], ("fault", "kind", 0))
        self.assertEqual(self.told(deep.format("f"))[0][:3], ("fault", "odd", 0))
        self.assertEqual(self.told(deep.format("f 0"))[0][0], "deep")

    def test_set(self):
        self.value("(let x 1 (set x 2))", 2)
        self.value("(let x 1 (do (set x (make t 3)) x))", ("block", "t", (3,)))
        self.value("(let x 1 (do (set x (fn () 8)) (call x)))", 8)
        self.value("(let x 1 (add x (do (set x 5) x)))", 6)
        self.value("(let x 1 (add (do (set x 5) x) x))", 10)

    def test_if(self):
        self.value("(if 1 2 3)", 2)
        self.value("(if -1 2 3)", 2)
        self.value("(if 0 2 3)", 3)
        self.value("(if 1 (make t) 3)", ("block", "t", ()))
        self.fault("(if (make t) 2 3)", "kind", 0, "(if")
        self.fault("(if (fn () 1) 2 3)", "kind", 0, "(if")

    def test_math(self):
        self.value("(add 2 3)", 5)
        self.value("(sub 2 3)", -1)
        self.value("(mul 2 3)", 6)
        self.value("(less 2 3)", 1)
        self.value("(same 2 3)", 0)
        for op in ("add", "sub", "mul", "less", "same"):
            for other in ("(make t)", "(fn () 1)"):
                self.fault("(" + op + " 1 " + other + ")", "kind", 0, "(" + op)
                self.fault("(" + op + " " + other + " 1)", "kind", 0, "(" + op)
                self.fault("(" + op + " " + other + " " + other + ")", "kind", 0, "(" + op)

    def test_big(self):
        half = "(let h (mul 100000000000 1000000000) "
        self.value(half + "(mul h 10))", 10 ** 21)
        self.fault(half + "(mul h (mul h 1)))", "big", 0, "(mul h (mul")
        self.fault(half + "(mul h (sub 0 h)))", "big", 0, "(mul h (sub")
        self.value(half + "(mul h (sub h 1)))", 10 ** 40 - 10 ** 20)
        self.value("(let h (ask) (mul h 10))", 9 * 10 ** 30, inputs=[9 * 10 ** 29])

    def test_make_and_match(self):
        self.value("(make pair 1 (make t 2) (fn () 3))", ("block", "pair", (1, ("block", "t"), ("fn", 24))))
        self.value("(match (make t 1 2 3 4) t (a b c d) (make u d c b a) 0)", ("block", "u", (4, 3, 2, 1)))
        self.value("(match (make t) t () 1 2)", 1)
        self.value("(match (make t (fn () 6)) t (f) (call f) 0)", 6)

    def test_a_match_that_takes_nothing(self):
        for one in ("(make u 1)", "(make t)", "(make t 1 2)", "5", "0", "(fn (x) x)"):
            self.value("(match " + one + " t (x) x (tell 9))", 9, [9])
            self.value("(let x 3 (match " + one + " t (y) y x))", 3)

    def test_raise(self):
        self.fault("(raise oh 5)", "oh", 5, "(raise")
        self.fault("(raise oh (make t 1 (make u 2)))", "oh", ("block", "t", (1, ("block", "u"))), "(raise")
        self.fault("(raise oh (fn () 1))", "oh", ("fn", 10), "(raise")
        self.fault("(raise fn 1)", "fn", 1, "(raise")

    def test_tell(self):
        self.value("(tell (tell -3))", -3, [-3, -3])
        self.fault("(do (tell 1) (tell (make t)))", "kind", 0, "(tell (make", log=[1])
        self.fault("(tell (fn () 1))", "kind", 0, "(tell")

    def test_ask(self):
        self.value("(make t (ask) (ask) (ask) (ask))", ("block", "t", (7, -8, 0, 0)), inputs=[7, -8])
        self.value("(ask)", 0)

    def test_the_fault_that_goes_first(self):
        self.fault("(call 1 (raise oh 2))", "oh", 2, "(raise")
        self.fault("(call (raise oh 2) (raise no 3))", "oh", 2, "(raise oh")
        self.fault("(add (make t) (raise oh 2))", "oh", 2, "(raise")
        self.fault("(call (make t) 1 2)", "kind", 0, "(call")


class Tries(Case):
    def test_no_fault(self):
        self.value("(try 5 kind x 6)", 5)
        self.value("(try (make t 1) kind x 6)", ("block", "t", (1,)))

    def test_caught_by_its_word(self):
        self.value("(try (raise oh 5) oh x (add x 1))", 6)
        self.value("(try (add 1 (make t)) kind x (make u x))", ("block", "u", (0,)))
        self.value("(try (call (fn () 1) 2) odd x (make u x))", ("block", "u", (0,)))
        self.value("(let h (mul 100000000000 1000000000) (try (mul h h) big x (make u x)))", ("block", "u", (0,)))
        self.value("(try (raise oh (fn () 7)) oh x (call x))", 7)

    def test_a_raise_has_its_value_whatever_its_word(self):
        for word in ("kind", "odd", "big", "raise", "try"):
            self.value("(try (raise " + word + " 5) " + word + " x x)", 5)
            self.fault("(raise " + word + " 5)", word, 5, "(raise")

    def test_by_the_innermost(self):
        self.value("(try (try (raise oh 1) oh x 2) oh y 3)", 2)
        self.value("(try (try (raise oh 1) no x 2) oh y 3)", 3)
        self.value("(try (try (try (raise oh 1) no x 2) oh y 3) oh z 4)", 3)

    def test_not_by_one_of_another_word(self):
        self.fault("(try (raise oh 5) no x 6)", "oh", 5, "(raise")
        self.fault("(try (add 1 (make t)) big x 6)", "kind", 0, "(add")

    def test_not_by_one_that_has_not_begun_or_is_over(self):
        self.fault("(add (raise oh 5) (try 1 oh x 6))", "oh", 5, "(raise")
        self.fault("(add (try 1 oh x 6) (raise oh 5))", "oh", 5, "(raise")
        self.fault("(do (try 1 oh x 6) (raise oh 5))", "oh", 5, "(raise")
        self.fault("(let f (try (fn () (raise oh 5)) oh x 6) (call f))", "oh", 5, "(raise")
        self.fault("(try (raise no 5) oh x (try 6 no y 7))", "no", 5, "(raise")

    def test_a_fault_of_others_own_goes_outward(self):
        self.fault("(try (raise oh 5) oh x (raise oh 6))", "oh", 6, "(raise oh 6")
        self.value("(try (try (raise oh 5) oh x (raise oh (add x 1))) oh y (add y 10))", 16)
        self.fault("(try (try (raise oh 5) oh x (raise no 6)) oh y 7)", "no", 6, "(raise no")

    def test_in_whatever_function(self):
        self.value("(let f (fn (n) (add 1 (raise oh n))) (try (call f 5) oh x x))", 5)
        self.value("(let f (fn (g) (try (call g) oh x 2)) (try (call f (fn () (raise oh 1))) oh y 3))", 2)
        self.value("(let f (fn (g) (try (call g) no x 2)) (try (call f (fn () (raise oh 1))) oh y 3))", 3)
        self.value("(let f (fn () (try (fn () (raise oh 1)) oh x 2)) (try (call (call f)) oh y 3))", 3)

    def test_nothing_behind_the_fault_is_done(self):
        self.value("(try (do (tell 1) (add (raise oh 2) (tell 3))) oh x (tell x))", 2, [1, 2])
        self.value("(try (make t (tell 1) (raise oh 2) (tell 3)) oh x 4)", 4, [1])
        self.value("(add 10 (try (add (tell 1) (raise oh 2)) oh x x))", 12, [1])

    def test_other_in_the_scope_of_the_try(self):
        self.value("(let x 1 (let y 2 (try (let y 3 (raise oh 4)) oh x (make t x y))))", ("block", "t", (4, 2)))
        self.value("(let y 2 (try (do (set y 3) (raise oh 4)) oh x y))", 3)

    def test_calls_are_dropped_to_those_at_the_beginning(self):
        down = "(let f 0 (do (set f (fn (n) (if n (add 1 (call f (sub n 1))) (raise oh 1)))) {}))"
        end, log, deeds, deepest = self.told(down.format("(do (try (call f 49) oh x 0) (add 1 (call f 48)))"))
        self.assertEqual((end[:3], deepest), (("fault", "oh", 1), 50))
        end, log, deeds, deepest = self.told(down.format("(try (call f 20) oh x (try (call f 30) oh y 7))"))
        self.assertEqual((end, deepest), (("value", 7), 31))
        inner = "(let g (fn () (try (call f 30) oh x (add 1 (call f 40)))) (try (add 1 (call g)) oh y 8))"
        end, log, deeds, deepest = self.told(down.format(inner))
        self.assertEqual((end, deepest), (("value", 8), 42))
        too_deep = "(let g (fn () (try (call f 48) oh x (add 1 (call f 49)))) (add 1 (call g)))"
        end, log, deeds, deepest = self.told(down.format(too_deep))
        self.assertEqual((end[0], deepest), ("deep", 50))

    def test_the_end_tells_word_value_and_place(self):
        text = "(let f (fn () (raise oh (make t 1))) (add 1 (call f)))"
        self.assertEqual(self.told(text)[0], ("fault", "oh", ("block", "t", (1,)), at(text, "(raise")))


class LastPlaces(Case):
    def opened(self, text, many):
        end, log, deeds, deepest = self.told("(let f (fn () 1) " + text + ")")
        self.assertEqual((end[0], deepest), ("value", many), text)

    def test_calls_in_last_place(self):
        for text in ("(call f)", "(let x 1 (call f))", "(do 1 (call f))", "(if 1 (call f) 2)", "(if 0 2 (call f))",
                     "(match (make t) t () (call f) 2)", "(match 0 t () 2 (call f))",
                     "(try (raise oh 1) oh x (call f))",
                     "(let x 1 (do 2 (if 1 (match 0 t () 2 (try (raise oh 1) oh x (call f))) 3)))"):
            self.opened(text, 0)
            self.opened("(call (fn () " + text + "))", 0)
            self.opened("(do (call (fn () " + text + ")) 1)", 1)

    def test_calls_in_no_last_place(self):
        for text in ("(try (call f) oh x 2)", "(let x (call f) 2)", "(do (call f) 2)", "(if (call f) 2 3)",
                     "(match (call f) t () 2 3)", "(tell (call f))", "(add 1 (call f))", "(add (call f) 1)",
                     "(make t (call f))", "(call (fn (x) x) (call f))", "(let x 1 (set x (call f)))",
                     "(try (raise oh (call f)) oh x 2)", "(try (do 1 (call f)) oh x 2)",
                     "(try (try (raise oh 1) oh x (call f)) oh x 2)", "(call (do (call f) f))",
                     "(call (if 1 (do (call f) f) 3))", "(call (let g (do (call f) f) g))"):
            self.opened(text, 1)
            self.opened("(call (fn () " + text + "))", 1)
            self.opened("(do (call (fn () " + text + ")) 1)", 2)

    def test_loops_in_last_place_open_no_call(self):
        for body in ("(call f)", "(do (tell 1) (call f))", "(let x 1 (call f))", "(if 1 (call f) 2)",
                     "(if 0 2 (call f))", "(match (make t) t () (call f) 2)", "(match 1 t () 2 (call f))",
                     "(try (raise oh 1) oh x (call f))"):
            for begun, many in (("(call f)", 0), ("(tell (call f))", 1)):
                text = "(let f 0 (do (set f (fn () " + body + ")) " + begun + "))"
                end, log, deeds, deepest = self.told(text, most=2000)
                self.assertEqual((end, len(deeds), deepest), (("dry",), 2000, many), text)

    def test_two_functions_in_turn(self):
        text = "(let g 0 (let f (fn (n) (call g n)) (do (set g (fn (n) (if n (call f (sub n 1)) 7))) (call f 400))))"
        self.assertEqual(self.told(text, most=2000)[0], ("value", 7))
        self.assertEqual(self.told(text, most=2000)[3], 0)

    def test_loops_in_no_last_place_end_as_deep_at_the_fifty_first(self):
        for body in ("(tell (call f))", "(try (call f) oh x 1)", "(do (call f) 1)", "(let x (call f) 1)"):
            text = "(let f 0 (do (set f (fn () " + body + ")) (call f)))"
            end, log, deeds, deepest = self.told(text, most=2000)
            self.assertEqual((end, deepest), (("deep", at(text, "(call f)")), 50), body)
            self.assertEqual(deeds[2:], [at(text, "(call f)", 1)] + [at(text, "(call f)")] * 51)

    def test_deep_is_no_fault(self):
        text = "(let f 0 (do (set f (fn () (tell (call f)))) (try (call f) deep x 1)))"
        self.assertEqual(self.told(text)[0], ("deep", at(text, "(call f)")))

    def test_fifty_calls_come_back(self):
        text = "(let f 0 (do (set f (fn (n) (if n (add 1 (call f (sub n 1))) 0))) (add 1 (call f 49))))"
        end, log, deeds, deepest = self.told(text)
        self.assertEqual((end, deepest), (("value", 50), 50))
        end, log, deeds, deepest = self.told(text.replace("49", "50"))
        self.assertEqual((end, deepest), (("deep", at(text, "(call f (sub")), 50))


class Whole(Case):
    def test_what_is_no_program_is_refused(self):
        within = []
        within.append(within)
        for thing in (None, 1, "1", "(ask)", (), [], {}, ("number", 0), ("name", 0, "x"), ("number", 600, 1),
                      ["number", 0, 1], ("number", 0, True), nested(21), wide(301), within, object(),
                      ("do", 0, ("ask", 1), ("ask", 1)), ("set", 0, "x", ("number", 1, 2))):
            with self.assertRaises(NoPart):
                run_source(thing, [])
            with self.assertRaises(NoPart):
                run_source(thing, [1], 0)

    def test_nothing_handed_in_is_changed(self):
        inputs = [4, 5]
        program = read_program("(add (ask) (add (ask) (ask)))")
        kept = copy.deepcopy(program)
        first = run_source(program, inputs)
        self.assertEqual(first[0], ("value", 9))
        self.assertEqual((inputs, program), ([4, 5], kept))

    def test_the_same_question_again(self):
        program = read_program("(let x 1 (do (tell (set x (add x (ask)))) x))")
        first = run_source(program, [4])
        self.assertEqual(first[1], [5])
        kept = copy.deepcopy(first)
        first[1].clear()
        first[2].clear()
        self.assertEqual(run_source(program, [4]), kept)

    def test_what_is_told_is_plain(self):
        for program in one_of_each_kind():
            told = run_source(program, [1])
            self.assertEqual([type(thing) for thing in told], [tuple, list, list, int])

    def test_each_end(self):
        self.assertEqual(self.told("1")[0], ("value", 1))
        self.assertEqual(self.told("(raise oh 1)")[0], ("fault", "oh", 1, 0))
        self.assertEqual(self.told("(ask)", most=0)[0], ("dry",))

    def test_programs_as_large_and_deep_as_may_be(self):
        self.assertEqual(run_source(nested(20), []), (("value", 1), [1] * 20, list(range(1, 21)), 0))
        self.assertEqual(run_source(wide(300), [])[0], ("value", 1))
        self.assertEqual(len(parts_of(wide(300))), 300)
        for opening, closing in (("(add 0 ", ")"), ("(tell ", ")"), ("(try ", " no x 0)"), ("(if ", " 3 4)"),
                                 ("(make t ", ")"), ("(do ", " 2)"), ("(let x ", " x)"), ("(call (fn (x) x) ", ")")):
            text = opening * 19 + "(ask)" + closing * 19
            program = read_program(text)
            self.assertEqual(run_source(program, [5]), model_run(program, [5]), text)

    def test_deep_calls_of_deep_parts(self):
        inside = "(add 1 " * 13 + "(call f (sub n 1))" + ")" * 13
        text = "(let f 0 (do (set f (fn (n) (if n " + inside + " 0))) (add 0 (call f 49))))"
        self.assertEqual(self.told(text, most=2000)[0], ("value", 13 * 49))

    def test_long_chains_of_blocks(self):
        text = "(let f 0 (do (set f (fn (n b) (if n (call f (sub n 1) (make t b)) b))) (call f 400 0)))"
        self.assertEqual(self.told(text, most=2000)[0], ("value", ("block", "t", (("block", "t"),))))
        loop = "(let f 0 (do (set f (fn (n k) (if n (call f (sub n 1) (fn (x) (call k x))) (call k n)))) {}))"
        text = loop.format("(call f 300 (fn (x) (add x 7)))")
        self.assertEqual(self.told(text, most=2000)[0], ("value", 7))


class Model(Case):
    """Many programs, run by another telling of the same points."""

    def same(self, program, inputs, most):
        self.assertEqual(run_source(program, inputs, most), model_run(program, inputs, most), program)

    def test_texts(self):
        for text in TEXTS_TO_RUN:
            program = read_program(text)
            for most in list(range(12)) + [1000]:
                self.same(program, [6, 7], most)

    def test_lively_programs(self):
        ends = {}
        for program in lively_programs(21, 700):
            self.same(program, [3, 1, -2, 5], 600)
            end = run_source(program, [3, 1, -2, 5], 600)[0][0]
            ends[end] = ends.get(end, 0) + 1
        self.assertGreater(min([ends.get(end, 0) for end in ("value", "fault", "deep", "dry")]), 1, ends)

    def test_lively_programs_without_wrong_kinds(self):
        for program in lively_programs(22, 300, wrong=0):
            for inputs in ([], [1, 0, 2, 7, 7, 7]):
                self.same(program, inputs, 300)

    def test_each_bound(self):
        for program in lively_programs(23, 60):
            many = len(run_source(program, [2], 60)[2])
            for most in range(many + 2):
                self.same(program, [2], most)

    def test_chance_programs(self):
        for program in chance_programs(24, 300):
            self.same(program, [1], 50)


if __name__ == "__main__":
    unittest.main()

import copy
import unittest

from closedmodel import closed_model, in_order
from samples import STORING, TEXTS_TO_RUN, chance_programs, lively_programs, nested, one_of_each_kind, wide
from shapes import body, n, x
from spacewright.boxing import boxed
from spacewright.closedrun import full_closed, run_closed
from spacewright.closing import closed
from spacewright.naming import named
from spacewright.reading import read_program
from spacewright.sourcerun import run_source


def code(place, params, kept, *things):
    return (place, params, kept, body(*things))


def closed_of(text):
    return closed(boxed(named(read_program(text))))


def cells(things):
    return sum([1 + len(fields) for kind, fields in things])


class Case(unittest.TestCase):
    def needs(self, text, room, place, asked, frames, things):
        """A run with this room does not end as full, one with a cell less does so at this place; the frames are told
        without their names, and the things in the order in which they are met."""
        program = closed_of(text)
        self.assertEqual(run_closed(program, [], 1000, room), run_closed(program, []), text)
        self.assertIsNone(full_closed(program, [], 1000, room))
        self.assertEqual(run_closed(program, [], 1000, room - 1)[0], ("full", place), text)
        told = in_order(full_closed(program, [], 1000, room - 1))
        self.assertEqual(told[:2], (place, asked))
        self.assertEqual([[value for name, value in frame] for frame in told[2]], frames, text)
        self.assertEqual(told[3], things, text)
        self.assertEqual(asked + cells(things), room)


class ByHand(unittest.TestCase):
    def told(self, codes, run, inputs=(), most=1000, room=None):
        self.assertEqual(run_closed((codes, ()), list(inputs), most, room), run)

    def test_kept_names_and_params(self):
        codes = (code(0, (), (), ("ask", 0, 3), ("ask", 1, 4), ("close", 2, 1, (0, 1), 10),
                      ("call", 3, x(2), (n(5), n(6)), 20, True), x(3)),
                 code(10, (4, 5), (0, 1), ("make", 6, "t", (x(0), x(1), x(4), x(5)), 11), x(6)))
        self.told(codes, (("value", ("block", "t", (7, 8, 5, 6))), [], [3, 4, 10, 20, 11], 0), [7, 8])

    def test_boxes_are_shared(self):
        codes = (code(0, (), (), ("box", 0, n(1), 3), ("close", 1, 1, (0,), 10), ("close", 2, 2, (0,), 20),
                      ("call", 3, x(1), (n(5),), 30, False), ("call", 4, x(2), (), 31, False), ("load", 5, 0),
                      ("make", 6, "t", (x(3), x(4), x(5)), 32), x(6)),
                 code(10, (7,), (0,), ("load", 8, 0), ("math", 9, "add", x(7), x(8), 11), ("store", 10, 0, x(9), 12),
                      x(10)),
                 code(20, (), (0,), ("load", 11, 0), ("math", 12, "mul", x(11), n(2), 21), x(12)))
        self.told(codes, (("value", ("block", "t", (6, 12, 6))), [], [10, 20, 30, 11, 12, 31, 21, 32], 1))

    def test_a_function_keeps_what_names_hold_when_it_is_made(self):
        codes = (code(0, (), (), ("close", 0, 1, (), 5), ("call", 1, x(0), (n(3),), 6, False),
                      ("call", 2, x(0), (n(4),), 7, False), ("call", 3, x(1), (), 8, False),
                      ("call", 4, x(2), (), 9, False), ("make", 5, "t", (x(3), x(4)), 10), x(5)),
                 code(5, (6,), (), ("close", 7, 2, (6,), 11), x(7)),
                 code(11, (), (6,), x(6)))
        self.told(codes, (("value", ("block", "t", (3, 4))), [], [5, 6, 11, 7, 11, 8, 9, 10], 1))
        self.told(codes[:1] + (codes[1], code(11, (), (6,), ("close", 8, 2, (6,), 12), x(8))),
                  (("value", ("block", "t", (("fn", 12), ("fn", 12)))), [], [5, 6, 11, 7, 11, 8, 12, 9, 12, 10], 1))

    def test_its_place_is_that_of_the_close(self):
        self.told((code(0, (), (), ("close", 0, 1, (), 44), x(0)), code(44, (), (), n(1))),
                  (("value", ("fn", 44)), [], [44], 0))

    def test_no_deeds(self):
        codes = (code(0, (), (), ("box", 0, n(1), 3), ("load", 1, 0),
                      ("try", 2, body(x(1)), "w", 3, body(n(2)), 5), x(2)),)
        self.told(codes, (("value", 1), [], [], 0), most=0)
        self.told(codes, (("value", 1), [], [], 0), most=0, room=2)
        self.told(codes, (("full", 3), [], [], 0), most=0, room=1)
        for step in (("store", 2, 0, n(5), 7), ("close", 2, 1, (), 7), ("make", 2, "t", (), 7)):
            codes = (code(0, (), (), ("box", 0, n(1), 3), step, n(1)), code(7, (), (), n(1)))
            self.told(codes, (("dry",), [], [], 0), most=0)

    def test_faults_and_tries(self):
        codes = (code(0, (), (), ("close", 0, 1, (), 5), ("try", 1, body(("call", 2, x(0), (n(3),), 6, False), x(2)),
                                                          "oh", 3, body(("tell", 4, x(3), 7), x(4)), 8), x(1)),
                 code(5, (5,), (), ("raise", 6, "oh", x(5), 9), x(6)))
        self.told(codes, (("value", 3), [3], [5, 6, 9, 7], 1))
        self.told((code(0, (), (), ("call", 0, n(1), (), 6, False), x(0)),), (("fault", "kind", 0, 6), [], [6], 0))
        odd = (code(0, (), (), ("close", 0, 1, (), 5), ("call", 1, x(0), (), 6, True), x(1)), code(5, (2,), (), x(2)))
        self.told(odd, (("fault", "odd", 0, 6), [], [5, 6], 0))

    def test_loops(self):
        for last, run in ((True, (("dry",), [], ([1, 2, 3] + [6] * 2000)[:2000], 0)),
                          (False, (("deep", 6), [], [1, 2, 3] + [6] * 50, 50))):
            codes = (code(0, (), (), ("box", 0, n(0), 9), ("close", 1, 1, (0,), 1), ("store", 2, 0, x(1), 2),
                          ("call", 3, x(2), (), 3, last), x(3)),
                     code(1, (), (0,), ("load", 4, 0), ("call", 5, x(4), (), 6, last), x(5)))
            self.told(codes, run, most=2000)
            self.told(codes, run, most=2000, room=4)

    def test_what_is_told_where_the_room_is_full(self):
        codes = (code(0, (), (), ("make", 9, "a", (n(1), n(2)), 3), ("box", 8, x(9), 4), ("close", 7, 1, (8, 9), 5),
                      ("call", 6, x(7), (x(7), n(6)), 20, False), ("store", 5, 8, x(6), 21), ("load", 4, 8),
                      ("make", 3, "b", (x(9), x(4), x(6)), 22), x(3)),
                 code(5, (1, 2), (8, 9), ("load", 10, 8), ("make", 11, "c", (x(10), x(2)), 6), ("tell", 12, x(2), 7),
                      ("make", 13, "d", (x(1), x(11)), 8), x(13)))
        whole = ("value", ("block", "b", (("block", "a"), ("block", "d"), ("block", "d"))))
        self.told(codes, (whole, [6], [3, 5, 20, 6, 7, 8, 21, 22], 1))
        # The make at 6 asks for 3 cells; reached are the block, the box, and the function that the first param is.
        told = full_closed((codes, ()), [], 1000, 10)
        self.assertEqual(run_closed((codes, ()), [], 1000, 10), (("full", 6), [], [3, 5, 20, 6], 1))
        self.assertEqual(in_order(told), (6, 3, [[(8, ("thing", 0)), (9, ("thing", 1))],
                                                 [(1, ("thing", 2)), (2, 6), (10, ("thing", 1))]],
                                          [("box", (("thing", 1),)), ("block", (1, 2)),
                                           ("fn", (("thing", 0), ("thing", 1)))]))
        # The make at 8 finds the block of 3 cells besides, and asks for 3.
        told = full_closed((codes, ()), [], 1000, 13)
        self.assertEqual(in_order(told), (8, 3, [[(8, ("thing", 0)), (9, ("thing", 1))],
                                                 [(1, ("thing", 2)), (11, ("thing", 3))]],
                                          [("box", (("thing", 1),)), ("block", (1, 2)),
                                           ("fn", (("thing", 0), ("thing", 1))), ("block", (("thing", 1), 6))]))
        # The make at 22 asks for 4; the function is reached by the block that came back, the box by the function.
        for room in (14, 17):
            told = full_closed((codes, ()), [], 1000, room)
            self.assertEqual(in_order(told), (22, 4, [[(4, ("thing", 0)), (6, ("thing", 0)), (9, ("thing", 1))]],
                                              [("block", (("thing", 2), ("thing", 3))), ("block", (1, 2)),
                                               ("fn", (("thing", 4), ("thing", 1))), ("block", (("thing", 1), 6)),
                                               ("box", (("thing", 0),))]))
        self.assertIsNone(full_closed((codes, ()), [], 1000, 18))


class JustTheRoom(Case):
    def test_a_make(self):
        self.needs("(make t)", 1, 0, 1, [[]], [])
        self.needs("(make t 1 2)", 3, 0, 3, [[]], [])
        self.needs("(make t 1 2 3 4)", 5, 0, 5, [[]], [])

    def test_a_close(self):
        self.needs("(fn (a b) a)", 1, 0, 1, [[]], [])
        self.needs("(let y (ask) (fn (a) y))", 2, 13, 2, [[0]], [])
        self.needs("(let y (ask) (let z (ask) (fn (a) (fn () (add y z)))))", 3, 26, 3, [[0, 0]], [])

    def test_a_box(self):
        self.needs("(let x 1 (set x 2))", 2, 0, 2, [[]], [])
        self.needs("(let x (make t) (set x 2))", 3, 0, 2, [[("thing", 0)]], [("block", ())])
        self.needs("(let f (fn (x) (set x 1)) (call f 7))", 2, 7, 2, [[7]], [])
        self.needs("(try (raise w 4) w x (set x 1))", 2, 0, 2, [[4]], [])

    def test_boxes_of_params_and_their_like(self):
        text = "(match (make t 5 6) t (x y) (do (set x 1) (set y 2)) 0)"
        program = closed_of(text)
        self.assertEqual(run_closed(program, [], 1000, 4), run_closed(program, []))
        told = in_order(full_closed(program, [], 1000, 3))
        # The block is needed no more when its fields are there.
        self.assertEqual((told[0], told[1], told[3]), (0, 2, [("box", (5,))]))
        self.needs("(try (raise w (make t 5)) w x (set x 1))", 4, 0, 2, [[("thing", 0)]], [("block", (5,))])

    def test_a_room_of_nought(self):
        for text in ("5", "(let x (ask) (if (add x 1) (tell x) (raise w 2)))", "(try (raise w 1) w x (add x 2))"):
            program = closed_of(text)
            self.assertEqual(run_closed(program, [3], 1000, 0), run_closed(program, [3]))
            self.assertIsNone(full_closed(program, [3], 1000, 0))
        self.assertEqual(run_closed(closed_of("(make t)"), [], 1000, 0), (("full", 0), [], [0], 0))


class WhenAsked(Case):
    def test_behind_the_noting_of_the_deed(self):
        for text in ("(do (tell 1) (make t))", "(do (tell 1) (fn () 2))"):
            program = closed_of(text)
            self.assertEqual(run_closed(program, [], 1000, 0), (("full", 13), [1], [4, 13], 0))
            self.assertEqual(run_closed(program, [], 1, 0), (("dry",), [1], [4], 0))
            self.assertIsNone(full_closed(program, [], 1, 0))

    def test_a_box_is_no_deed(self):
        program = closed_of("(let x (tell 1) (set x 2))")
        self.assertEqual(run_closed(program, [], 1, 1), (("full", 0), [1], [7], 0))
        self.assertEqual(run_closed(program, [], 1, 2), (("dry",), [1], [7], 0))

    def test_behind_the_operands(self):
        program = closed_of("(make t (tell 1) (tell 2))")
        self.assertEqual(run_closed(program, [], 1000, 2), (("full", 0), [1, 2], [8, 17, 0], 0))

    def test_full_is_no_fault(self):
        self.assertEqual(run_closed(closed_of("(try (make t) full x 1)"), [], 1000, 0)[0], ("full", 5))

    def test_where_a_fault_goes_first(self):
        program = closed_of("(do (add 1 (fn () 2)) (make t 1 2 3))")
        self.assertEqual(run_closed(program, [], 1000, 1)[0], ("fault", "kind", 0, 4))


class Reached(Case):
    def test_once_however_often_held(self):
        self.needs("(let b (make t 1) (make u b b))", 5, 18, 3, [[("thing", 0)]], [("block", (1,))])
        self.needs("(let b (make t 1) (let c (make u b b) (make v b c c)))", 9, 38, 4,
                   [[("thing", 0), ("thing", 1)]], [("block", (1,)), ("block", (("thing", 0), ("thing", 0)))])

    def test_alike_is_not_the_same(self):
        self.needs("(let b (make t 1) (let c (make t 1) (make u b c)))", 7, 36, 3,
                   [[("thing", 0), ("thing", 1)]], [("block", (1,)), ("block", (1,))])

    def test_a_name_that_nothing_behind_uses_holds_nothing(self):
        self.needs("(do (make t 1) (make u 2))", 2, 4, 2, [[]], [])
        self.needs("(let b (make t 1) (do (match b t (x) x 0) (make u 2 3)))", 3, 42, 3, [[]], [])
        self.needs("(let b (make t 1) (do (make u 2 3) b))", 5, 22, 3, [[("thing", 0)]], [("block", (1,))])

    def test_what_an_operand_alone_holds(self):
        self.needs("(make u (make t 1 2))", 5, 0, 2, [[("thing", 0)]], [("block", (1, 2))])

    def test_what_is_held_in_the_branches_behind(self):
        self.needs("(let b (make t 1) (do (make u 2 3) (if 0 b 1)))", 5, 22, 3, [[("thing", 0)]], [("block", (1,))])
        self.needs("(let b (make t 1) (if 0 b (make u 2 3)))", 3, 26, 3, [[]], [])
        self.needs("(let b (make t 1) (do (if 1 (make u 2 3) 0) b))", 5, 28, 3, [[("thing", 0)]], [("block", (1,))])

    def test_a_try_keeps_the_names_of_other_while_one_is_done(self):
        self.needs("(let b (make t 1) (try (make u 2 3) w e b))", 5, 23, 3, [[("thing", 0)]], [("block", (1,))])
        self.needs("(let b (make t 1) (try (if 1 (make u 2 3) 0) w e b))", 5, 29, 3,
                   [[("thing", 0)]], [("block", (1,))])
        self.needs("(let b (make t 1) (try (raise w 0) w e (make u 2 3)))", 3, 39, 3, [[]], [])
        self.needs("(let b (make t 1) (do (try 1 w e b) (make u 2 3)))", 3, 36, 3, [[]], [])
        self.needs("(let b (make t 1) (try (make u 2 3) w e (make v e)))", 3, 23, 3, [[]], [])

    def test_frames_of_calls_that_are_open(self):
        self.needs("(let f (fn () (make u 2 3)) (let b (make t 1) (let c (call f) (match b t (x) x 0))))", 5, 14, 3,
                   [[("thing", 0)], []], [("block", (1,))])
        self.needs("(let f (fn () (make u 2 3 4)) (let b (make t 1) (do (match b t (x) x 0) (let c (call f) 1))))",
                   4, 14, 4, [[], []], [])
        self.needs("(let f (fn (y) (make u 2 3 4)) (let b (make t 1) (let c (call f b) 1)))", 4, 15, 4, [[], []], [])
        self.needs("(let f (fn (y) (make u 2 y)) (let b (make t 1) (let c (call f b) 1)))", 5, 15, 3,
                   [[], [("thing", 0)]], [("block", (1,))])

    def test_what_a_function_keeps(self):
        self.needs("(let b (make t 1) (let f (fn () b) (do (make u 2 3 4) (call f))))", 8, 39, 4,
                   [[("thing", 0)]], [("fn", (("thing", 1),)), ("block", (1,))])
        self.needs("(let b (make t 1) (let f (fn () (do (make u 2 3 4) b)) (tell (match (call f) t (x) x 0))))", 6, 36,
                   4, [[], [("thing", 0)]], [("block", (1,))])

    def test_a_call_in_last_place_goes_on_in_its_frame(self):
        self.needs("(let b (make t 1) (let f (fn (y) (make u 2 3 4)) (call f b)))", 4, 33, 4, [[]], [])
        self.needs("(let b (make t 1) (let f (fn (y) (make u 2 3 y)) (call f b)))", 6, 33, 4,
                   [[("thing", 0)]], [("block", (1,))])

    def test_a_loop_in_last_place_needs_no_more_room(self):
        text = "(let f 0 (do (set f (fn (n b) (do (make u n 1 2 3) (call f (add n 1) (make t n b n))))) {}))"
        once = closed_of(text.format("(call f 0 0)").replace("(make t n b n)", "(make t n n)"))
        end, log, deeds, deepest = run_closed(once, [], 2000, 9)
        self.assertEqual((end, len(deeds), deepest), (("dry",), 2000, 0))
        self.assertEqual(run_closed(once, [], 2000, 8)[0][0], "full")
        growing = closed_of(text.format("(call f 0 0)"))
        self.assertEqual(run_closed(growing, [], 2000, 400)[0][0], "full")
        self.assertEqual(run_closed(growing, [], 2000)[0], ("dry",))

    def test_the_frame_of_a_fault_is_gone(self):
        self.needs("(let f (fn () (let b (make t 1 2 3) (do (raise w 1) b))) (try (call f) w e (make u 2 3 4 5)))", 5,
                   75, 5, [[]], [])

    def test_rings(self):
        self.needs("(let f 0 (do (set f (fn () (call f))) (make t f)))", 6, 38, 2, [[("thing", 0)]],
                   [("fn", (("thing", 1),)), ("box", (("thing", 0),))])
        text = "(let a 0 (let b (make t (fn () a)) (do (set a b) (make u b))))"
        self.needs(text, 8, 49, 2, [[("thing", 0)]],
                   [("block", (("thing", 1),)), ("fn", (("thing", 2),)), ("box", (("thing", 0),))])

    def test_a_box_holds_what_is_in_it_now(self):
        self.needs("(let x (make t 1 2 3) (do (set x 5) (do (make u 1 2 3 4) x)))", 7, 40, 5, [[("thing", 0)]],
                   [("box", (5,))])


class Whole(unittest.TestCase):
    def test_the_run_is_that_of_the_program(self):
        for program in lively_programs(81, 400) + lively_programs(82, 80, depth=7) + one_of_each_kind():
            last = closed(boxed(named(program)))
            run = run_source(program, [3, 1, -2, 5], 600)
            self.assertEqual(run_closed(last, [3, 1, -2, 5], 600), run, program)
            self.assertEqual(run_closed(last, [3, 1, -2, 5], 600, None), run)
            self.assertIsNone(full_closed(last, [3, 1, -2, 5], 600, None))

    def test_texts(self):
        for text in TEXTS_TO_RUN:
            program = read_program(text)
            last = closed(boxed(named(program)))
            for most in list(range(12)) + [1000]:
                run = run_source(program, [6, 7], most)
                self.assertEqual(run_closed(last, [6, 7], most), run)
                self.assertEqual(run_closed(last, [6, 7], most, 400), run)

    def test_each_bound(self):
        for program in lively_programs(83, 60):
            last = closed(boxed(named(program)))
            for most in range(len(run_source(program, [2], 50)[2]) + 2):
                self.assertEqual(run_closed(last, [2], most), run_source(program, [2], most), program)

    def test_chance_programs(self):
        for program in chance_programs(84, 300):
            last = closed(boxed(named(program)))
            self.assertEqual(run_closed(last, [1], 50), run_source(program, [1], 50))
            self.assertEqual(run_closed(last, [1], 50, 0), closed_model(last, [1], 50, 0)[0])

    def test_large_and_deep_ones(self):
        inside = "(add 1 " * 13 + "(call f (sub n 1))" + ")" * 13
        text = "(let f 0 (do (set f (fn (n) (if n " + inside + " 0))) (add 0 (call f 49))))"
        for program in [nested(20), wide(300), read_program(text)]:
            last = closed(boxed(named(program)))
            run = run_source(program, [], 2000)
            self.assertEqual(run_closed(last, [], 2000), run)
            self.assertEqual(run_closed(last, [], 2000, 400), run)

    def test_the_bound_left_out(self):
        self.assertEqual(len(run_closed(closed_of("(let f 0 (do (set f (fn () (call f))) (call f)))"), [])[2]), 1000)

    def test_nothing_is_changed_and_the_answer_is_the_same(self):
        last = closed_of("(let x (ask) (do (tell (set x (add x (ask)))) (make t (fn () x) (make u 1))))")
        kept, inputs = copy.deepcopy(last), [4, 5]
        first, full = run_closed(last, inputs, 1000, 5), full_closed(last, inputs, 1000, 5)
        again = copy.deepcopy((first, full))
        self.assertEqual(first[0][0], "full")
        first[1].clear()
        first[2].clear()
        for frame in full[2]:
            frame.clear()
        full[2].clear()
        full[3].clear()
        self.assertEqual((run_closed(last, inputs, 1000, 5), full_closed(last, inputs, 1000, 5)), again)
        self.assertEqual((inputs, last), ([4, 5], kept))

    def test_what_is_told_is_plain(self):
        full = full_closed(closed_of(STORING[3]), [], 1000, 8)
        self.assertEqual([type(thing) for thing in full], [int, int, list, list])
        for frame in full[2]:
            self.assertIs(type(frame), list)
            for name, value in frame:
                self.assertIn(type(value), (int, tuple))
        for thing in full[3]:
            self.assertEqual([type(one) for one in (thing,) + thing], [tuple, str, tuple])


class Model(unittest.TestCase):
    """Many programs with many rooms, run by another telling of the same points."""

    def same(self, last, most, room):
        run, full = closed_model(last, [3, 1, -2, 5], most, room)
        self.assertEqual(run_closed(last, [3, 1, -2, 5], most, room), run)
        told = full_closed(last, [3, 1, -2, 5], most, room)
        if full is None:
            self.assertIsNone(told)
            return False
        self.assertEqual(in_order(told), in_order(full))
        values = [value for kind, fields in told[3] for value in fields]
        for frame in told[2]:
            self.assertEqual([name for name, value in frame], sorted(set([name for name, value in frame])))
            values.extend([value for name, value in frame])
        for value in values:
            self.assertTrue(isinstance(value, int) or value in [("thing", k) for k in range(len(told[3]))])
        self.assertEqual(run[0], ("full", told[0]))
        self.just_so_many_cells(last, most, room, told)
        return True

    def just_so_many_cells(self, last, most, room, told):
        """With as many cells as are due the run goes on there, as it does without a room."""
        due = told[1] + cells(told[3])
        self.assertGreater(due, room)
        self.assertEqual(in_order(full_closed(last, [3, 1, -2, 5], most, due - 1)), in_order(told))
        before = run_closed(last, [3, 1, -2, 5], most, room)
        further = run_closed(last, [3, 1, -2, 5], most, due)
        without = run_closed(last, [3, 1, -2, 5], most)
        again = full_closed(last, [3, 1, -2, 5], most, due)
        self.assertTrue(again is None or in_order(again) != in_order(told))
        self.assertEqual(further[2][:len(before[2])], before[2])
        self.assertEqual(without[2][:len(further[2])], further[2])
        if further[0][0] != "full":
            self.assertEqual(further, without)

    def test_lively_programs(self):
        full = 0
        for program in lively_programs(91, 120) + lively_programs(92, 60, depth=7):
            last = closed(boxed(named(program)))
            for room in (0, 1, 2, 3, 4, 5, 7, 10, 14, 20, 60):
                full += self.same(last, 200, room)
        self.assertGreater(full, 500)

    def test_texts(self):
        for text in TEXTS_TO_RUN:
            last = closed_of(text)
            for room in (0, 1, 3, 4, 5, 6, 8):
                self.same(last, 1000, room)

    def test_programs_that_store_much(self):
        for text in STORING:
            last = closed_of(text)
            self.assertEqual(run_closed(last, []), run_source(read_program(text), []), text)
            self.assertTrue(self.same(last, 1000, 0), text)
            room = 0
            while self.same(last, 1000, room):
                room += 1
            self.assertGreaterEqual(room, 8)
            self.assertFalse(self.same(last, 1000, 400))


if __name__ == "__main__":
    unittest.main()

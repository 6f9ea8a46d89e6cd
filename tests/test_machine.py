import copy
import unittest

from closedmodel import closed_model
from moveheap import told_and_moves
from rowmodel import run_of_rows
from samples import STORING, TEXTS_TO_RUN, chance_programs, lively_programs, nested, one_of_each_kind, wide
from spacewright.boxing import boxed
from spacewright.closedrun import run_closed
from spacewright.closing import closed
from spacewright.machine import full_rows, run_rows
from spacewright.naming import named
from spacewright.reading import read_program
from spacewright.rowing import rows_of
from spacewright.rows import read_rows, rows_text
from spacewright.sourcerun import run_source


def closed_of(text):
    return closed(boxed(named(read_program(text))))


def rows_from(text):
    return rows_of(closed_of(text))


class EachRow(unittest.TestCase):
    def told(self, text, run, inputs=(), most=1000):
        rows = rows_from(text)
        self.assertEqual(run_rows(rows, list(inputs), most), run)
        self.assertEqual(run_source(read_program(text), list(inputs), most), run)

    def test_back_and_move(self):
        self.told("5", (("value", 5), [], [], 0))
        self.told("(if 1 7 8)", (("value", 7), [], [0], 0))

    def test_math(self):
        for op, value in (("add", 9), ("sub", 5), ("mul", 14), ("less", 0), ("same", 0)):
            self.told(f"({op} 7 2)", (("value", value), [], [0], 0))
        self.told("(less 2 7)", (("value", 1), [], [0], 0))
        self.told("(same 7 7)", (("value", 1), [], [0], 0))
        for op in ("add", "sub", "mul", "less", "same"):
            self.told(f"({op} (make t) 2)", (("fault", "kind", 0, 0), [], [4 + len(op) - 2, 0], 0))
            self.told(f"({op} 2 (fn () 1))", (("fault", "kind", 0, 0), [], [4 + len(op), 0], 0))
        big = "(let a (mul 100000000000 1000000000) (let b (mul a a) {}))"
        self.told(big.format("(sub b 1)"), (("fault", "big", 0, 44), [], [7, 44], 0))
        self.told("(let a (mul 100000000000 100000000) (mul a (mul a 10)))", (("value", 10 ** 39), [], [7, 43, 36], 0))

    def test_tell_and_ask(self):
        self.told("(do (tell -3) (tell (tell 4)))", (("value", 4), [-3, 4, 4], [4, 20, 14], 0))
        self.told("(tell (make t))", (("fault", "kind", 0, 0), [], [6, 0], 0))
        self.told("(tell (fn () 1))", (("fault", "kind", 0, 0), [], [6, 0], 0))
        self.told("(sub (ask) (ask))", (("value", 8), [], [5, 11, 0], 0), [10, 2, 5])
        self.told("(sub (ask) (ask))", (("value", 10), [], [5, 11, 0], 0), [10])

    def test_boxes(self):
        self.told("(let x 1 (do (set x (add x 4)) x))", (("value", 5), [], [20, 13], 0))
        self.told("(let x 1 (set x 6))", (("value", 6), [], [9], 0))

    def test_make_and_match(self):
        self.told("(make t)", (("value", ("block", "t", ())), [], [0], 0))
        self.told("(make t 1 (make u 2) (fn () 3) 4)",
                  (("value", ("block", "t", (1, ("block", "u"), ("fn", 21), 4))), [], [10, 21, 0], 0))
        self.told("(match (make t 1 2) t (a b) (sub b a) 9)", (("value", 1), [], [7, 0, 28], 0))
        for one in ("5", "(make t 1)", "(make t 1 2 3)", "(make u 1 2)", "(fn () 1)", "(fn (a b) 1)"):
            end, log, deeds, deepest = run_rows(rows_from(f"(match {one} t (a b) (sub b a) 9)"), [])
            self.assertEqual((end, deeds[-1]), (("value", 9), 0))

    def test_close_and_call(self):
        self.told("(fn (a) a)", (("value", ("fn", 0)), [], [0], 0))
        self.told("(let k (ask) (let f (fn (a b) (make t a b k)) (add 0 (match (call f 1 2) t (a b c) c 9))))",
                  (("value", 7), [], [7, 20, 60, 30, 53, 46], 1), [7])
        self.told("(add 1 (call 5))", (("fault", "kind", 0, 7), [], [7], 0))
        self.told("(add 1 (call (make t)))", (("fault", "kind", 0, 7), [], [13, 7], 0))
        self.told("(add 1 (call (fn (a) a)))", (("fault", "odd", 0, 7), [], [13, 7], 0))
        self.told("(add 1 (call (fn () 2) 3))", (("fault", "odd", 0, 7), [], [13, 7], 0))
        self.told("(add 1 (call (fn (a) (call (fn () a))) 3))", (("value", 4), [], [13, 7, 27, 21, 0], 1))

    def test_last(self):
        self.told("(call 5)", (("fault", "kind", 0, 0), [], [0], 0))
        self.told("(call (fn (a) a))", (("fault", "odd", 0, 0), [], [6, 0], 0))
        self.told("(call (fn (a b) (sub a b)) 9 4)", (("value", 5), [], [6, 0, 16], 0))

    def test_a_fault_of_last_that_a_frame_below_catches(self):
        self.told("(try (add 1 (call (fn () (call 5)))) kind e (tell 7))", (("value", 7), [7], [18, 12, 25, 44], 1))
        self.told("(try (add 1 (call (fn () (call (fn (a) a))))) odd e (tell 7))", (("value", 7), [7], [18, 12, 31, 25, 52], 1))

    def test_a_block_of_many_levels_is_shown(self):
        # Each level holds the one below twice.
        text = "(let f 0 (do (set f (fn (n b) (if n (call f (sub n 1) (make t b b)) b))) (call f 400 0)))"
        end = run_rows(rows_from(text), [], 2000)[0]
        self.assertEqual(end, ("value", ("block", "t", (("block", "t"), ("block", "t")))))

    def test_test(self):
        self.told("(if 0 7 8)", (("value", 8), [], [0], 0))
        self.told("(if -1 7 8)", (("value", 7), [], [0], 0))
        self.told("(if (make t) 7 8)", (("fault", "kind", 0, 0), [], [4, 0], 0))
        self.told("(if (fn () 1) 7 8)", (("fault", "kind", 0, 0), [], [4, 0], 0))

    def test_guard_unguard_and_raise(self):
        self.told("(try (raise oh 5) oh e (add e 1))", (("value", 6), [], [5, 23], 0))
        self.told("(try (raise oh 5) no e (add e 1))", (("fault", "oh", 5, 5), [], [5], 0))
        self.told("(raise oh (make t 1 (make u 2)))",
                  (("fault", "oh", ("block", "t", (1, ("block", "u"))), 0), [], [20, 10, 0], 0))
        self.told("(raise oh (fn () 1))", (("fault", "oh", ("fn", 10), 0), [], [10, 0], 0))
        # Behind the try its guard is gone.
        self.told("(do (try 1 oh e 2) (raise oh 3))", (("fault", "oh", 3, 19), [], [19], 0))
        self.told("(try (raise oh 1) oh e (raise oh 2))", (("fault", "oh", 2, 23), [], [5, 23], 0))

    def test_faults_of_the_program_itself_are_caught(self):
        self.told("(try (add 1 (make t)) kind e (tell e))", (("value", 0), [0], [12, 5, 29], 0))
        self.told("(try (add 1 (call (fn () 1) 2)) odd e (tell e))", (("value", 0), [0], [18, 12, 38], 0))
        self.told("(try (if (make t) 1 2) kind e (tell e))", (("value", 0), [0], [9, 5, 30], 0))
        self.told("(try (tell (make t)) kind e (tell e))", (("value", 0), [0], [11, 5, 28], 0))
        self.told("(let a (mul 100000000000 1000000000) (try (mul a a) big e (tell e)))",
                  (("value", 0), [0], [7, 42, 58], 0))

    def test_guards_of_one_frame(self):
        self.told("(try (try (raise oh 1) oh a (add a 10)) oh b (add b 100))", (("value", 11), [], [10, 28], 0))
        self.told("(try (try (raise oh 1) no a (add a 10)) oh b (add b 100))", (("value", 101), [], [10, 45], 0))
        # The guard that catches goes, and those that are newer go with it.
        self.told("(try (try (try (raise oh 1) no a 5) oh b (raise no 6)) no c (add c 100))",
                  (("value", 106), [], [15, 41, 60], 0))
        self.told("(add (try (try (raise oh 1) no a 5) oh b 6) (raise no 7))", (("fault", "no", 7, 44), [], [15, 44], 0))

    def test_guards_of_several_frames(self):
        text = "(let f (fn (w) (try (if w (raise oh 1) (raise no 2)) oh a (add a 10))) (try (add 0 (call f {})) oh b (add b 100)))"
        self.told(text.format(1), (("value", 11), [], [7, 83, 20, 26, 58, 76], 1))
        self.told(text.format(0), (("fault", "no", 2, 39), [], [7, 83, 20, 39], 1))
        text = "(let f (fn () (try (raise no 1) oh a 10)) (try (try (add 0 (call f)) no b (raise oh (add b 5))) oh c (add c 100)))"
        self.told(text, (("value", 106), [], [7, 59, 19, 84, 74, 101], 1))

    def test_open_calls_are_dropped(self):
        down = "(let f 0 (do (set f (fn (n) (if n (add 1 (call f (sub n 1))) (raise oh n)))) {}))"
        for text in (down.format("(do (try (call f 49) oh x 0) (add 1 (call f 49)))"),
                     down.format("(let g (fn () (try (call f 48) oh x (add 1 (call f 48)))) (add 1 (call g)))")):
            told = run_rows(rows_from(text), [])
            self.assertEqual((told[0][:2], told[3]), (("fault", "oh"), 50))
            self.assertEqual(told, run_source(read_program(text), []))
        for text in (down.format("(do (try (call f 49) oh x 0) (add 1 (call f 50)))"),
                     down.format("(let g (fn () (try (call f 48) oh x (add 1 (call f 49)))) (add 1 (call g)))")):
            told = run_rows(rows_from(text), [])
            self.assertEqual((told[0][0], told[3]), ("deep", 50))
            self.assertEqual(told, run_source(read_program(text), []))

    def test_calls_in_last_place_come_in_the_place_of_the_frame(self):
        text = "(let f 0 (do (set f (fn (n) (call f (add n 1)))) (call f 0)))"
        end, log, deeds, deepest = run_rows(rows_from(text), [], 2000, 4)
        self.assertEqual((end, len(deeds), deepest), (("dry",), 2000, 0))
        self.assertEqual(run_rows(rows_from(text), [], 2000, 4, 1), (end, log, deeds, deepest))
        text = text.replace("(call f 0)", "(add 1 (call f 0))").replace("(call f (add n 1))", "(if (less n 400) (call f (add n 1)) n)")
        self.assertEqual(run_rows(rows_from(text), [], 2000)[0], ("value", 401))
        self.assertEqual(run_rows(rows_from(text), [], 2000)[3], 1)

    def test_dry_and_deep(self):
        self.told("(tell (add 1 2))", (("dry",), [], [6], 0), most=1)
        self.told("(tell (add 1 2))", (("dry",), [], [], 0), most=0)
        self.told("(let x 1 (do (set x 5) x))", (("dry",), [], [], 0), most=0)
        self.told("(let f 0 (do (set f (fn () (add 1 (call f)))) (call f)))",
                  (("deep", 34), [], [20, 13, 46] + [34] * 51, 50))

    def test_the_bound_left_out(self):
        rows = rows_from("(let f 0 (do (set f (fn () (call f))) (call f)))")
        self.assertEqual(len(run_rows(rows, [])[2]), 1000)

    def test_rows_that_were_read_back(self):
        for text in STORING:
            rows = rows_from(text)
            self.assertEqual(run_rows(read_rows(rows_text(rows)), []), run_rows(rows, []))
        self.assertEqual(run_rows(read_rows("code 0 0 0 1 0\nask s0 3\nmath s0 mul s0 -2 7\nback s0"), [21]),
                         (("value", -42), [], [3, 7], 0))


class Askings(unittest.TestCase):
    def moves(self, text, most, room, every):
        """The movings of a run; the run is what it is without a room."""
        told, moves = told_and_moves(run_rows, rows_from(text), [], most, room, every)
        self.assertEqual(told, run_rows(rows_from(text), [], most))
        return moves

    def due(self, text, room, place, asked, used):
        """With this room the run goes on as without a room; with one cell less it ends as full here."""
        rows = rows_from(text)
        for every in (0, 1, 2, 3, 50):
            self.assertEqual(run_rows(rows, [], 1000, room, every), run_rows(rows, []))
            self.assertIsNone(full_rows(rows, [], 1000, room, every))
            self.assertIsNone(full_rows(rows, [], 1000, None, every))
            self.assertEqual(run_rows(rows, [], 1000, room - 1, every)[0], ("full", place))
            self.assertEqual(full_rows(rows, [], 1000, room - 1, every), (place, asked, used))
        self.assertEqual(full_rows(rows, [], 1000, room - 1), (place, asked, used))
        self.assertEqual(asked + used, room)

    def test_make(self):
        self.due("(make t)", 1, 0, 1, 0)
        self.due("(make t 1 2 3 4)", 5, 0, 5, 0)
        self.due("(let b (make t 1) (make u b b))", 5, 18, 3, 2)

    def test_close(self):
        self.due("(fn () 1)", 1, 0, 1, 0)
        self.due("(let a (ask) (let b (ask) (fn (c) (make t a b c))))", 3, 26, 3, 0)

    def test_box(self):
        self.due("(let x 5 (set x 6))", 2, 0, 2, 0)
        # The box of a parameter is no deed, and has the place of its function.
        rows = rows_from("(call (fn (x) (set x 5)) 7)")
        self.assertEqual(run_rows(rows, [], 1000, 1), (("full", 6), [], [6, 0], 0))
        self.assertEqual(full_rows(rows, [], 1000, 1), (6, 2, 0))
        self.assertEqual(run_rows(rows, [], 1000, 2), (("value", 5), [], [6, 0, 14], 0))

    def test_the_deed_is_noted_ahead_of_the_asking(self):
        rows = rows_from("(do (tell 1) (make t))")
        self.assertEqual(run_rows(rows, [], 1, 0), (("dry",), [1], [4], 0))
        self.assertIsNone(full_rows(rows, [], 1, 0))
        self.assertEqual(run_rows(rows, [], 2, 0), (("full", 13), [1], [4, 13], 0))
        # A box is no deed, so it asks even where no deed is left.
        rows = rows_from("(let x 1 (set x 2))")
        self.assertEqual(run_rows(rows, [], 0, 1), (("full", 0), [], [], 0))
        self.assertEqual(run_rows(rows, [], 0, 2), (("dry",), [], [], 0))

    def test_what_is_not_needed_any_more_is_not_kept(self):
        self.due("(do (make t 1 2 3 4) (make u 1))", 5, 4, 5, 0)
        self.due("(let b (make t 1 2 3 4) (do (match b t (p q r s) p 0) (make u 1 2 3 4 )))", 5, 7, 5, 0)

    def test_frames_below_keep_what_their_call_rows_name(self):
        text = "(let b (make t 1 2) (let f (fn () (make u 1 2 3)) (match (call f) u (x y z) (match b t (p q) p 0) 0)))"
        self.due(text, 7, 34, 4, 3)
        # Neither the frame below nor the function needs the block any more.
        text = "(let b (make t 1 2) (let f (fn (x) (make u 1 2 3)) (match (call f b) u (x y z) x 0)))"
        rows = rows_from(text)
        self.assertIsNone(full_rows(rows, [], 1000, 4))
        self.assertEqual(full_rows(rows, [], 1000, 3), (27, 1, 3))

    def test_a_full_end_in_deep_frames(self):
        text = "(let f 0 (do (set f (fn (n) (let b (make t n n) (match (call f (add n 1)) t (x y) (match b t (p q) p 0) 0)))) (call f 0)))"
        rows = rows_from(text)
        for every in (0, 1, 7):
            # A box and a function that keeps it are four cells, and each open call keeps a block of three.
            self.assertEqual(full_rows(rows, [], 1000, 100, every), (35, 3, 4 + 3 * 32))
            self.assertEqual(run_rows(rows, [], 1000, 100, every)[3], 32)

    def test_when_storage_is_moved(self):
        text = "(do (make t 1) (do (make t 2) (do (make t 3) (do (make t 4) (make t 5)))))"
        self.assertEqual(self.moves(text, 1000, None, 0), [])
        self.assertEqual(self.moves(text, 1000, 400, 0), [])
        self.assertEqual(self.moves(text, 1000, None, 1), [(0, 0, 0)] + [(2, 0, 0)] * 4)
        self.assertEqual(self.moves(text, 1000, None, 2), [(2, 0, 0), (4, 0, 0)])
        self.assertEqual(self.moves(text, 1000, None, 3), [(4, 0, 0)])
        self.assertEqual(self.moves(text, 1000, None, 5), [(8, 0, 0)])
        self.assertEqual(self.moves(text, 1000, None, 6), [])
        self.assertEqual(self.moves(text, 1000, None, 50), [])
        self.assertEqual(told_and_moves(run_rows, rows_from(text), [])[1], [])
        self.assertEqual(told_and_moves(full_rows, rows_from(text), [], 1000, 400), (None, []))
        # Only when it must be: one moving for each asking at most.
        self.assertEqual(self.moves(text, 1000, 2, 0), [(2, 0, 0)] * 4)
        self.assertEqual(self.moves(text, 1000, 3, 0), [(2, 0, 0)] * 4)
        self.assertEqual(self.moves(text, 1000, 4, 0), [(4, 0, 0)] * 2)
        self.assertEqual(self.moves(text, 1000, 10, 0), [])
        self.assertEqual(self.moves(text, 1000, 9, 0), [(8, 0, 0)])
        self.assertEqual(self.moves(text, 1000, 2, 1), [(0, 0, 0)] + [(2, 0, 0)] * 4)
        self.assertEqual(self.moves(text, 1000, 2, 2), [(2, 0, 0)] * 4)

    def test_moved_once_where_it_ends_as_full(self):
        text = "(let b (make t 1) (make u b b))"
        for every, moves in ((0, [(2, 2, 1)]), (1, [(0, 0, 0), (2, 2, 1)]), (2, [(2, 2, 1)]), (3, [(2, 2, 1)])):
            self.assertEqual(told_and_moves(full_rows, rows_from(text), [], 1000, 4, every), ((18, 3, 2), moves))

    def test_the_operands_are_read_behind_the_moving(self):
        # Each make moves what it holds: its place is another one then.
        text = "(do (make a 1 2 3) (let b (make b 5) (let c (make c b 6) (do (make x 1) (match (make d c b) d (p q) " \
               "(match p c (r s) (match r b (t) (add t s) 0) 0) 0)))))"
        for room in (None, 8, 9, 10, 400):
            for every in (0, 1, 2, 3, 4, 5):
                self.assertEqual(run_rows(rows_from(text), [], 1000, room, every)[0], ("value", 11))
        text = "(do (make a 1 2 3) (let b (make b 5) (let f (fn () b) (let x b (do (set x f) (call x))))))"
        for every in (0, 1, 2, 3):
            self.assertEqual(run_rows(rows_from(text), [], 1000, 6, every)[0], ("value", ("block", "b", (5,))))

    def test_things_keep_apart_and_shared(self):
        text = "(let x 0 (let f (fn () (set x (add x 1))) (do (make t) (do (call f) (let g f (do (make t) (do (call g) x)))))))"
        for every in (0, 1, 2, 3):
            self.assertEqual(run_rows(rows_from(text), [], 1000, None, every)[0], ("value", 2))


class Many(unittest.TestCase):
    def cells(self, things):
        return sum([1 + len(fields) for kind, fields in things])

    def same(self, last, inputs, most, room, everies):
        """The machine's runs are those of the closed program, as the tests tell it once more."""
        run, full = closed_model(last, inputs, most, room)
        due = None if full is None else (full[0], full[1], self.cells(full[3]))
        rows = rows_of(last)
        for every in everies:
            self.assertEqual(run_rows(rows, inputs, most, room, every), run)
            self.assertEqual(full_rows(rows, inputs, most, room, every), due)
        self.assertEqual(run_closed(last, inputs, most, room), run)
        return full is not None

    def test_without_a_room(self):
        for program in lively_programs(171, 250) + lively_programs(172, 50, depth=7) + one_of_each_kind():
            last = closed(boxed(named(program)))
            rows = rows_of(last)
            run = run_source(program, [3, 1, -2, 5], 600)
            self.assertEqual(run_of_rows(rows, last, [3, 1, -2, 5], 600)[0], run)
            for every in (0, 1, 2, 3, 50):
                self.assertEqual(run_rows(rows, [3, 1, -2, 5], 600, None, every), run)
            self.assertIsNone(full_rows(rows, [3, 1, -2, 5], 600, None, 1))

    def test_chance_programs(self):
        for program in chance_programs(173, 300) + [nested(20), wide(300)]:
            self.same(closed(boxed(named(program))), [1], 50, None, (0, 1))
            self.same(closed(boxed(named(program))), [1], 50, 3, (0, 1))

    def test_rooms(self):
        full = 0
        for program in lively_programs(174, 100) + lively_programs(175, 60, depth=7):
            last = closed(boxed(named(program)))
            for room in (0, 1, 2, 3, 4, 5, 7, 10, 14, 20, 60):
                full += self.same(last, [3, 1, -2, 5], 200, room, (0, 1, 2, 5, 50))
        self.assertGreater(full, 500)

    def test_texts(self):
        for text in TEXTS_TO_RUN:
            for room in (None, 0, 1, 3, 4, 5, 6, 8, 400):
                self.same(closed_of(text), [6, 7], 1000, room, (0, 1, 2))

    def test_each_bound(self):
        for text in STORING:
            for most in range(0, 60, 3):
                self.same(closed_of(text), [], most, 30, (0, 2))

    def test_programs_that_store_much(self):
        for text in STORING:
            last = closed_of(text)
            room = 0
            while self.same(last, [], 1000, room, (0, 1, 2, 3)):
                room += 1
            self.assertGreaterEqual(room, 8)
            self.assertFalse(self.same(last, [], 1000, 400, (0, 1, 50)))

    def test_nothing_is_changed_and_the_answer_is_the_same(self):
        rows = rows_from("(let x (ask) (do (tell (set x (add x (ask)))) (make t (fn () x) (make u 1))))")
        kept, inputs = copy.deepcopy(rows), [4, 5]
        for room in (None, 5):
            first = run_rows(rows, inputs, 1000, room, 1)
            again = copy.deepcopy(first)
            first[1].clear()
            first[2].clear()
            self.assertEqual(run_rows(rows, inputs, 1000, room, 1), again)
            self.assertEqual((rows, inputs), (kept, [4, 5]))
        self.assertEqual(full_rows(rows, inputs, 1000, 5), full_rows(rows, inputs, 1000, 5))

    def test_what_is_told_is_plain(self):
        rows = rows_from("(make t 1 (make u 2) (fn () 3))")
        told = run_rows(rows, [])
        self.assertEqual([type(thing) for thing in (told,) + told], [tuple, tuple, list, list, int])
        self.assertEqual([type(thing) for thing in told[0][1][2]], [int, tuple, tuple])
        full = full_rows(rows, [], 1000, 2)
        self.assertEqual([type(thing) for thing in (full,) + full], [tuple, int, int, int])


if __name__ == "__main__":
    unittest.main()

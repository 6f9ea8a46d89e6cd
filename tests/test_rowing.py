import copy
import unittest

from needmodel import chance_codes
from rowmodel import rows_model, run_of_rows
from samples import TEXTS_TO_RUN, chance_programs, lively_programs, many_programs, nested, one_of_each_kind, wide
from shapes import body, n, x
from spacewright.boxing import boxed
from spacewright.closing import closed
from spacewright.naming import named
from spacewright.reading import read_program
from spacewright.rowing import rows_of
from spacewright.rows import row_form
from spacewright.sourcerun import run_source


def code(params, kept, *things):
    return (7, params, kept, body(*things))


def s(number):
    return ("slot", number)


def closed_of(program):
    return closed(boxed(named(program)))


class Rows(unittest.TestCase):
    def told(self, one, slots, *rows):
        """The rows of a closed program of this code alone."""
        place, params, kept, inside = one
        self.assertEqual(rows_of(((one,), ())), (((place, len(params), len(kept), slots, 0),), rows))

    def test_no_steps(self):
        self.told(code((), (), n(-5)), 0, ("back", n(-5)))
        self.told(code((4, 5), (), x(5)), 2, ("back", s(1)))
        self.told(code((), (4, 5), x(5)), 2, ("back", s(1)))

    def test_steps_that_become_a_row_of_their_word(self):
        self.told(code((1, 2), (3,), ("math", 4, "less", x(2), n(-9), 11), ("tell", 5, x(4), 12), ("ask", 6, 13),
                       ("make", 7, "t", (x(6), x(5), n(3), x(3)), 14), x(7)), 3,
                  ("math", 0, "less", s(1), n(-9), 11), ("tell", 0, s(0), 12), ("ask", 1, 13),
                  ("make", 0, "t", (s(1), s(0), n(3), s(2)), 14, (0, 1, 2)), ("back", s(0)))
        self.told(code((1, 2), (3,), ("load", 4, 3), ("store", 5, 3, x(2), 11), ("box", 6, x(1), 12),
                       ("store", 7, 6, n(4), 13), x(4)), 4,
                  ("load", 3, 2), ("store", 1, 2, s(1), 11), ("box", 0, s(0), 12, (0, 3)), ("store", 0, 0, n(4), 13),
                  ("back", s(3)))

    def test_a_raise_leaves_its_name_out(self):
        self.told(code((1, 2), (), ("raise", 3, "oh", x(2), 11), x(3)), 2, ("raise", "oh", s(1), 11), ("back", s(0)))

    def test_a_close(self):
        self.told(code((1, 2), (3,), ("close", 5, 77, (3, 1), 11), x(5)), 3,
                  ("close", 0, 77, (s(2), s(0)), 11, (0, 2)), ("back", s(0)))
        self.told(code((1, 2), (3,), ("close", 5, 0, (), 11), x(2)), 3, ("close", 0, 0, (), 11, (1,)), ("back", s(1)))

    def test_live_of_things_made_is_what_is_needed_ahead(self):
        self.told(code((1, 2, 3), (), ("make", 4, "t", (x(1),), 11), x(3)), 3,
                  ("make", 0, "t", (s(0),), 11, (0, 2)), ("back", s(2)))
        self.told(code((1, 2, 3), (), ("box", 4, x(2), 11), x(3)), 3, ("box", 0, s(1), 11, (1, 2)), ("back", s(2)))

    def test_live_of_a_call_is_what_is_needed_behind(self):
        self.told(code((1, 2, 3), (), ("call", 4, x(1), (x(2), n(8)), 11, False), ("math", 5, "add", x(4), x(3), 12), x(5)),
                  3, ("call", 0, s(0), (s(1), n(8)), 11, (2,)), ("math", 0, "add", s(0), s(2), 12), ("back", s(0)))
        self.told(code((1, 2), (), ("call", 4, x(1), (), 11, False), x(4)), 2, ("call", 0, s(0), (), 11, ()), ("back", s(0)))

    def test_live_rises_where_the_names_do_not(self):
        self.told(code((9, 8, 7), (), ("make", 5, "t", (x(8), x(9), x(7)), 11), x(5)), 3,
                  ("make", 0, "t", (s(1), s(0), s(2)), 11, (0, 1, 2)), ("back", s(0)))

    def test_a_call_in_last_place(self):
        self.told(code((1, 2), (), ("call", 4, x(2), (x(1), n(8)), 11, True), x(4)), 2,
                  ("last", s(1), (s(0), n(8)), 11), ("back", s(0)))

    def test_if(self):
        self.told(code((1, 2), (), ("if", 3, x(1), body(("ask", 4, 11), x(4)), body(x(2)), 12), x(3)), 2,
                  ("test", s(0), 4, 12), ("ask", 0, 11), ("move", 0, s(0)), ("jump", 5), ("move", 0, s(1)), ("back", s(0)))
        self.told(code((1, 2), (), ("if", 3, n(0), body(n(5)), body(n(6)), 12), x(2)), 2,
                  ("test", n(0), 3, 12), ("move", 0, n(5)), ("jump", 4), ("move", 0, n(6)), ("back", s(1)))

    def test_match(self):
        self.told(code((1, 2), (), ("match", 3, x(1), "t", (5, 4), body(x(4)), body(("ask", 6, 11), x(6)), 12), x(2)), 3,
                  ("match", s(0), "t", (0, 2), 3, 12), ("move", 0, s(2)), ("jump", 5), ("ask", 0, 11), ("move", 0, s(0)),
                  ("back", s(1)))
        self.told(code((1,), (), ("match", 3, x(1), "t", (), body(n(1)), body(n(2)), 12), x(3)), 1,
                  ("match", s(0), "t", (), 3, 12), ("move", 0, n(1)), ("jump", 4), ("move", 0, n(2)), ("back", s(0)))

    def test_try(self):
        self.told(code((1, 2), (), ("try", 3, body(("ask", 4, 11), x(4)), "w", 5, body(("tell", 6, x(5), 12), x(2)), 13), x(1)),
                  3, ("guard", "w", 2, 5), ("ask", 2, 11), ("move", 1, s(2)), ("unguard",), ("jump", 7),
                  ("tell", 2, s(2), 12), ("move", 1, s(1)), ("back", s(0)))

    def test_within_one_another(self):
        inmost = ("try", 4, body(n(1)), "w", 5, body(x(5)), 10)
        between = ("if", 6, x(9), body(inmost, x(4)), body(n(2)), 11)
        self.told(code((), (), ("ask", 9, 1), ("if", 3, x(9), body(between, x(6)), body(n(3)), 12), x(3)), 1,
                  ("ask", 0, 1), ("test", s(0), 13, 12), ("test", s(0), 10, 11), ("guard", "w", 0, 7), ("move", 0, n(1)),
                  ("unguard",), ("jump", 8), ("move", 0, s(0)), ("move", 0, s(0)), ("jump", 11), ("move", 0, n(2)),
                  ("move", 0, s(0)), ("jump", 14), ("move", 0, n(3)), ("back", s(0)))

    def test_a_call_in_last_place_within(self):
        self.told(code((1,), (), ("if", 2, x(1), body(("call", 3, x(1), (), 5, True), x(3)), body(n(4)), 6), x(2)), 1,
                  ("test", s(0), 4, 6), ("last", s(0), (), 5), ("move", 0, s(0)), ("jump", 5), ("move", 0, n(4)),
                  ("back", s(0)))

    def test_several_codes(self):
        codes = ((0, (), (), body(("close", 0, 1, (), 10), ("close", 1, 2, (0,), 20), x(1))),
                 (10, (2,), (), body(("if", 3, x(2), body(n(1)), body(n(2)), 11), x(3))),
                 (20, (), (0,), body(("call", 4, x(0), (n(5),), 21, True), x(4))))
        self.assertEqual(rows_of((codes, (10, 20, 10, 11, 21))), (
            ((0, 0, 0, 1, 0), (10, 1, 0, 1, 3), (20, 0, 1, 1, 8)),
            (("close", 0, 1, (), 10, ()), ("close", 0, 2, (s(0),), 20, (0,)), ("back", s(0)),
             ("test", s(0), 6, 11), ("move", 0, n(1)), ("jump", 7), ("move", 0, n(2)), ("back", s(0)),
             ("last", s(0), (n(5),), 21), ("back", s(0)))))

    def test_of_a_program(self):
        self.assertEqual(rows_of(closed_of(read_program("(let x 1 (fn (y) (set x y)))"))), (
            ((0, 0, 0, 1, 0), (9, 1, 1, 2, 3)),
            (("box", 0, n(1), 0, ()), ("close", 0, 1, (s(0),), 9, (0,)), ("back", s(0)),
             ("store", 0, 1, s(0), 17), ("back", s(0)))))


class Many(unittest.TestCase):
    def check(self, last):
        kept = copy.deepcopy(last)
        program = rows_of(last)
        self.assertEqual(program, rows_model(last))
        self.assertEqual((rows_of(last), last), (program, kept))
        codes, rows = program
        self.assertEqual([type(thing) for thing in (program, codes, rows)], [tuple] * 3)
        for row in rows:
            self.assertEqual(len(row), 1 + len(row_form(row[0])))
            self.assertIs(type(row), tuple)
        entries = [one[4] for one in codes]
        self.assertEqual(entries, sorted(set(entries)))
        self.assertEqual(entries[0], 0)
        for end in entries[1:] + [len(rows)]:
            self.assertEqual(rows[end - 1][0], "back")

    def test_rows_of_many_programs(self):
        for program in many_programs(121):
            self.check(closed_of(program))

    def test_codes_written_by_hand(self):
        codes = chance_codes(122, 300)
        for at in range(0, 300, 3):
            self.check((tuple(codes[at:at + 3]), ()))


class Runs(unittest.TestCase):
    """The rows are done in the tests' own way, which looks at what the slots hold."""

    def same(self, program, inputs, most):
        last = closed_of(program)
        told, looks = run_of_rows(rows_of(last), last, inputs, most)
        self.assertEqual(told, run_source(program, inputs, most), program)
        return looks

    def test_lively_programs(self):
        looks = 0
        for program in lively_programs(131, 400) + lively_programs(132, 80, depth=7) + one_of_each_kind():
            looks += self.same(program, [3, 1, -2, 5], 600)
        self.assertGreater(looks, 20000)

    def test_each_bound(self):
        for program in lively_programs(133, 50):
            for most in range(len(run_source(program, [2], 40)[2]) + 2):
                self.same(program, [2], most)

    def test_chance_programs(self):
        for program in chance_programs(134, 300) + [nested(20), wide(300)]:
            self.same(program, [1], 50)

    def test_texts(self):
        for text in TEXTS_TO_RUN:
            self.same(read_program(text), [6, 7], 1000)

    def test_slots_behind_a_fault_that_was_caught(self):
        for text in (
            "(let a (ask) (let b (ask) (try (let c (ask) (do (tell c) (raise oh c))) oh e (make t a b e))))",
            "(let a (ask) (try (let c (add a 1) (try (let d (add c 1) (do (call d) d)) oh e (add a e))) kind e (add a e)))",
            "(let f (fn (a b) (try (match (make t a b) t (c d) (if (less c d) (raise oh c) (raise no d)) 0) oh e "
            "(add a (add b e)))) (try (add (call f 1 2) (call f 2 1)) no e (add e (call f 3 4))))",
            "(let a (make t 1) (try (let f (fn (x) (raise oh x)) (let b (make u 2) (add (call f 5) (call f b)))) oh e "
            "(match a t (y) (add y e) 0)))",
        ):
            self.assertEqual(run_source(read_program(text), [6, 7, 8], 1000)[0][0], "value")
            self.assertGreater(self.same(read_program(text), [6, 7, 8], 1000), 3)


if __name__ == "__main__":
    unittest.main()

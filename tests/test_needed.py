import copy
import unittest

from needmodel import chance_codes, needed_model, paths, step_at
from samples import many_programs
from shapes import body, check_well_made, n, x
from spacewright.boxing import boxed
from spacewright.closing import closed
from spacewright.naming import named
from spacewright.needed import needed
from spacewright.reading import read_program


def code(params, kept, *things):
    return (7, params, kept, body(*things))


class Case(unittest.TestCase):
    def told(self, one, *needs):
        self.assertEqual(needed(one), list(needs))


class Paths(Case):
    def test_no_steps(self):
        self.told(code((), (), n(1)))
        self.told(code((1, 2), (3,), x(3)))

    def test_the_order_of_the_steps(self):
        def ask(name):
            return ("ask", name, 0)

        one = code((), (), ask(0),
                   ("if", 1, n(1), body(ask(2), ask(3), n(1)), body(ask(4), n(1)), 0),
                   ("match", 5, n(1), "t", (6,), body(n(1)), body(ask(7), n(1)), 0),
                   ("try", 8, body(ask(9), n(1)), "w", 10, body(ask(11), n(1)), 0), ask(12), n(1))
        self.assertEqual([path for path, ahead, behind in needed(one)],
                         [(0,), (1,), (1, 0, 0), (1, 0, 1), (1, 1, 0), (2,), (2, 1, 0), (3,), (3, 0, 0), (3, 1, 0), (4,)])

    def test_three_bodies_deep(self):
        deep = ("match", 5, n(1), "t", (), body(n(1)), body(("ask", 6, 0), ("ask", 7, 0), n(1)), 0)
        middle = ("try", 3, body(n(1)), "w", 4, body(("ask", 9, 0), deep, n(1)), 0)
        one = code((), (), ("ask", 8, 0), ("if", 2, n(1), body(middle, n(1)), body(n(1)), 0), n(1))
        self.assertEqual([path for path, ahead, behind in needed(one)],
                         [(0,), (1,), (1, 0, 0), (1, 0, 0, 1, 0), (1, 0, 0, 1, 1), (1, 0, 0, 1, 1, 1, 0),
                          (1, 0, 0, 1, 1, 1, 1)])


class Needed(Case):
    def test_each_kind_of_step(self):
        self.told(code((1, 2, 3), (), ("math", 4, "add", x(2), x(1), 0), n(1)), ((0,), (1, 2), ()))
        self.told(code((1, 2, 3), (), ("make", 4, "t", (x(3), x(1), x(3)), 0), n(1)), ((0,), (1, 3), ()))
        self.told(code((1, 2, 3), (), ("tell", 4, x(2), 0), n(1)), ((0,), (2,), ()))
        self.told(code((1, 2, 3), (), ("ask", 4, 0), n(1)), ((0,), (), ()))
        self.told(code((1, 2, 3), (), ("raise", 4, "w", x(2), 0), n(1)), ((0,), (2,), ()))
        self.told(code((1, 2, 3), (), ("call", 4, x(3), (x(2), n(5)), 0, False), n(1)), ((0,), (2, 3), ()))
        self.told(code((1, 2, 3), (), ("call", 4, x(1), (x(2),), 0, True), x(4)), ((0,), (1, 2), ()))
        self.told(code((1, 2, 3), (), ("box", 4, x(3), 0), n(1)), ((0,), (3,), ()))
        self.told(code((1, 2), (3,), ("load", 4, 3), n(1)), ((0,), (3,), ()))
        self.told(code((1, 2), (3,), ("store", 4, 3, x(1), 0), n(1)), ((0,), (1, 3), ()))
        self.told(code((1, 2), (3,), ("close", 4, 99, (3, 1), 0), n(1)), ((0,), (1, 3), ()))
        self.told(code((1, 2), (), ("if", 4, x(1), body(n(1)), body(n(1)), 0), n(1)), ((0,), (1,), ()))
        self.told(code((1, 2), (), ("match", 4, x(2), "t", (), body(n(1)), body(n(1)), 0), n(1)), ((0,), (2,), ()))
        self.told(code((1, 2), (), ("try", 4, body(n(1)), "w", 5, body(n(1)), 0), n(1)), ((0,), (), ()))

    def test_numbers_are_no_names(self):
        self.told(code((1, 2), (), ("math", 4, "add", n(1), n(2), 0), n(1)), ((0,), (), ()))
        self.told(code((1,), (2,), ("tell", 4, n(2), 0), n(2)), ((0,), (), ()))

    def test_the_steps_behind_and_the_last_atom(self):
        self.told(code((9, 3), (5,), ("ask", 0, 0), ("tell", 1, x(9), 0), ("tell", 2, x(0), 0), x(5)),
                  ((0,), (5, 9), (5, 9)), ((1,), (0, 5, 9), (0, 5)), ((2,), (0, 5), (5,)))

    def test_the_name_that_the_step_gives_is_not_needed_behind_it(self):
        self.told(code((), (), ("ask", 0, 0), ("tell", 1, x(0), 0), x(1)), ((0,), (), ()), ((1,), (0,), ()))

    def test_params_and_kept_names_that_nothing_uses(self):
        self.told(code((1, 2), (3, 4), ("tell", 5, x(2), 0), x(4)), ((0,), (2, 4), (4,)))

    def test_names_that_inner_bodies_alone_use(self):
        self.told(code((1, 2, 3), (), ("ask", 0, 0), ("if", 4, n(1), body(x(2)), body(("tell", 5, x(3), 0), n(1)), 0), n(1)),
                  ((0,), (2, 3), (2, 3)), ((1,), (2, 3), ()), ((1, 1, 0), (3,), ()))
        self.told(code((1, 2, 3), (), ("match", 4, x(1), "t", (6,), body(x(2)), body(x(3)), 0), n(1)),
                  ((0,), (1, 2, 3), ()))
        self.told(code((1, 2, 3), (), ("try", 4, body(x(2)), "w", 5, body(x(3)), 0), n(1)), ((0,), (2, 3), ()))

    def test_what_stands_behind_an_inner_body(self):
        self.told(code((1, 2, 3), (), ("if", 4, x(1), body(("ask", 5, 0), x(5)), body(("ask", 6, 0), x(2)), 0),
                       ("tell", 7, x(4), 0), x(3)),
                  ((0,), (1, 2, 3), (3,)), ((0, 0, 0), (3,), (3,)), ((0, 1, 0), (2, 3), (2, 3)), ((1,), (3, 4), (3,)))

    def test_the_name_of_a_step_is_not_there_within_it(self):
        told = needed(code((), (), ("if", 0, n(1), body(("ask", 1, 0), x(1)), body(n(1)), 0), x(0)))
        self.assertEqual(told, [((0,), (), ()), ((0, 0, 0), (), ())])

    def test_names_given_at_the_beginning_of_an_inner_body(self):
        self.told(code((1,), (), ("match", 4, x(1), "t", (5, 6), body(("tell", 7, x(5), 0), x(6)), body(("ask", 8, 0), n(1)),
                                  0), n(1)),
                  ((0,), (1,), ()), ((0, 0, 0), (5, 6), (6,)), ((0, 1, 0), (), ()))
        self.told(code((1,), (), ("try", 4, body(("ask", 7, 0), n(1)), "w", 5, body(("tell", 6, x(5), 0), x(5)), 0), n(1)),
                  ((0,), (), ()), ((0, 0, 0), (), ()), ((0, 1, 0), (5,), (5,)))

    def test_names_of_one_inner_body_are_not_there_in_another_or_behind(self):
        # That nothing else tells them apart, the other body and what stands behind use them too.
        self.told(code((), (), ("if", 4, n(1), body(("ask", 5, 0), x(5)), body(("tell", 6, x(5), 0), x(5)), 0),
                       ("tell", 7, x(5), 0), x(6)),
                  ((0,), (), ()), ((0, 0, 0), (), ()), ((0, 1, 0), (), ()), ((1,), (), ()))
        self.told(code((), (), ("match", 4, n(1), "t", (5,), body(n(1)), body(("tell", 6, x(5), 0), n(1)), 0),
                       ("tell", 7, x(5), 0), n(1)),
                  ((0,), (), ()), ((0, 1, 0), (), ()), ((1,), (), ()))
        self.told(code((), (), ("try", 4, body(("tell", 6, x(5), 0), n(1)), "w", 5, body(n(1)), 0), ("tell", 7, x(5), 0),
                       n(1)),
                  ((0,), (), ()), ((0, 0, 0), (), ()), ((1,), (), ()))

    def test_the_other_of_a_try_while_its_one_is_done(self):
        self.told(code((1, 2, 3), (), ("try", 4, body(("ask", 5, 0), ("tell", 6, x(5), 0), x(3)), "w", 7,
                                       body(("tell", 8, x(1), 0), x(7)), 0), x(2)),
                  ((0,), (1, 2, 3), (2,)), ((0, 0, 0), (1, 2, 3), (1, 2, 3)), ((0, 0, 1), (1, 2, 3, 5), (1, 2, 3)),
                  ((0, 1, 0), (1, 2, 7), (2, 7)))

    def test_the_others_of_tries_round_one_another(self):
        innermost = ("try", 4, body(("ask", 5, 0), n(1)), "w", 6, body(("ask", 7, 0), x(1)), 0)
        between = ("if", 8, n(1), body(innermost, n(1)), body(n(1)), 0)
        outer = ("try", 9, body(between, n(1)), "w", 10, body(("ask", 11, 0), x(2)), 0)
        self.told(code((1, 2, 3), (), outer, x(3)),
                  ((0,), (1, 2, 3), (3,)), ((0, 0, 0), (1, 2, 3), (2, 3)), ((0, 0, 0, 0, 0), (1, 2, 3), (2, 3)),
                  ((0, 0, 0, 0, 0, 0, 0), (1, 2, 3), (1, 2, 3)), ((0, 0, 0, 0, 0, 1, 0), (1, 2, 3), (1, 2, 3)),
                  ((0, 1, 0), (2, 3), (2, 3)))

    def test_a_try_in_other(self):
        inside = ("try", 4, body(("ask", 5, 0), n(1)), "w", 6, body(x(1)), 0)
        self.told(code((1, 2), (), ("try", 7, body(x(2)), "w", 8, body(inside, n(1)), 0), n(1)),
                  ((0,), (1, 2), ()), ((0, 1, 0), (1,), ()), ((0, 1, 0, 0, 0), (1,), (1,)))

    def test_of_a_program(self):
        codes, places = closed(boxed(named(read_program("(let a (ask) (let b (ask) (fn () (add a b))))"))))
        (first, second, close), last = codes[0][3]
        self.told(codes[0], ((0,), (), ()), ((1,), (first[1],), (first[1],)), ((2,), tuple(sorted([first[1], second[1]])), ()))
        self.told(codes[1], ((0,), codes[1][2], ()))


class Many(unittest.TestCase):
    def check(self, one):
        kept = copy.deepcopy(one)
        told = needed(one)
        self.assertEqual(told, needed_model(one))
        self.assertIs(type(told), list)
        for need in told:
            self.assertEqual([type(thing) for thing in (need,) + need], [tuple] * 4)
        again = needed(one)
        told.clear()
        self.assertEqual((needed(one), one), (again, kept))

    def test_codes_of_many_programs(self):
        for program in many_programs(101):
            for one in closed(boxed(named(program)))[0]:
                self.check(one)

    def test_codes_written_by_hand(self):
        words = {}
        for one in chance_codes(102, 300):
            check_well_made(self, one[3], one[1] + one[2])
            self.check(one)
            for path in paths(one[3]):
                words[step_at(one[3], path)[0]] = len(path)
        self.assertEqual(len(words), 13)


if __name__ == "__main__":
    unittest.main()

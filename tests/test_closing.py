import copy
import unittest

from samples import many_programs
from shapes import all_steps, body, check_well_made, n, x
from spacewright.bodies import given_in, mentioned
from spacewright.boxing import boxed
from spacewright.closing import closed, free_names
from spacewright.naming import named
from spacewright.reading import read_program


class FreeNames(unittest.TestCase):
    def told(self, whole, names):
        self.assertEqual(free_names(whole), names)
        self.assertIs(type(free_names(whole)), tuple)

    def test_used_and_not_given(self):
        self.told(body(n(1)), ())
        self.told(body(x(4)), (4,))
        self.told(body(("ask", 4, 0), x(4)), ())
        self.told(body(("ask", 4, 0), ("math", 5, "add", x(4), x(6), 0), x(7)), (6, 7))

    def test_rising_and_each_once(self):
        self.told(body(("make", 1, "t", (x(9), x(3), x(9)), 0), ("tell", 2, x(3), 0), ("read", 4, 20),
                       ("set", 5, 12, x(11), 0), ("load", 6, 30), ("store", 7, 31, x(10), 0), x(9)),
                  (3, 9, 10, 11, 12, 20, 30, 31))

    def test_used_in_inner_bodies_alone(self):
        self.told(body(("if", 0, n(1), body(x(9)), body(x(8)), 0), x(0)), (8, 9))
        self.told(body(("match", 0, n(1), "t", (1,), body(("tell", 2, x(7), 0), x(1)), body(x(6)), 0), x(0)), (6, 7))
        self.told(body(("try", 0, body(x(9)), "w", 1, body(("tell", 2, x(5), 0), x(1)), 0), x(0)), (5, 9))
        self.told(body(("func", 0, (1,), body(("func", 2, (3,), body(
            ("make", 4, "t", (x(1), x(3), x(20)), 0), x(4)), 0), x(2)), 0), x(0)), (20,))

    def test_given_in_an_inner_body(self):
        self.told(body(("if", 0, n(1), body(("ask", 1, 0), x(1)), body(("ask", 2, 0), x(2)), 0), x(0)), ())
        self.told(body(("func", 0, (1, 2), body(("ask", 3, 0), ("make", 4, "t", (x(1), x(2), x(3)), 0), x(4)), 0), x(0)),
                  ())
        self.told(body(("match", 0, n(1), "t", (1, 2), body(x(2)), body(n(1)), 0), x(1)), ())
        self.told(body(("try", 0, body(n(1)), "w", 1, body(x(1)), 0), x(0)), ())

    def test_the_names_of_a_close(self):
        self.told(body(("ask", 3, 0), ("close", 0, 7, (1, 3, 5), 0), x(0)), (1, 5))
        self.told(body(("close", 0, 7, (), 0), x(0)), ())

    def test_of_a_body_that_is_not_well_made(self):
        self.told(body(("tell", 0, x(3), 0), ("ask", 3, 0), x(4)), (4,))


class Closed(unittest.TestCase):
    def test_without_functions(self):
        whole = body(("ask", 0, 5), ("box", 1, x(0), 6), ("if", 2, x(0), body(("load", 3, 1), x(3)), body(n(1)), 8),
                     x(2))
        self.assertEqual(closed((whole, (5, 6, 8, 9))), (((0, (), (), whole),), (5, 6, 8, 9)))

    def test_a_function_that_keeps_names(self):
        first = (body(("ask", 0, 5), ("ask", 1, 6), ("ask", 2, 7), ("func", 3, (4,), body(
            ("make", 5, "t", (x(4), x(2), x(0), x(2)), 9), x(5)), 8), x(3)), (5, 6, 7, 8, 8, 9))
        self.assertEqual(closed(first), ((
            (0, (), (), body(("ask", 0, 5), ("ask", 1, 6), ("ask", 2, 7), ("close", 3, 1, (0, 2), 8), x(3))),
            (8, (4,), (0, 2), body(("make", 5, "t", (x(4), x(2), x(0), x(2)), 9), x(5))),
        ), (5, 6, 7, 8, 8, 9)))

    def test_functions_within_functions(self):
        innermost = ("func", 4, (5,), body(("make", 6, "t", (x(0), x(3), x(5)), 30), x(6)), 20)
        middle = ("func", 2, (3,), body(innermost, x(4)), 40)
        first = (body(("ask", 0, 5), ("func", 1, (), body(middle, x(2)), 10), x(1)), (5, 10, 40, 40, 20, 20, 30))
        self.assertEqual(closed(first), ((
            (0, (), (), body(("ask", 0, 5), ("close", 1, 1, (0,), 10), x(1))),
            (10, (), (0,), body(("close", 2, 3, (0,), 40), x(2))),
            (20, (5,), (0, 3), body(("make", 6, "t", (x(0), x(3), x(5)), 30), x(6))),
            (40, (3,), (0,), body(("close", 4, 2, (0, 3), 20), x(4))),
        ), (5, 10, 40, 40, 20, 20, 30)))

    def test_a_function_in_each_inner_body(self):
        def func(name, place):
            return ("func", name, (), body(x(0)), place)

        def close(name, number, place):
            return ("close", name, number, (0,), place)

        def whole(made):
            return body(("ask", 0, 1), ("if", 1, n(1), body(made[0], x(2)), body(made[1], x(3)), 2),
                        ("match", 4, n(1), "t", (5,), body(made[2], x(6)), body(made[3], x(7)), 3),
                        ("try", 8, body(made[4], x(9)), "w", 10, body(made[5], x(11)), 4), x(8))

        places = [26, 22, 23, 25, 21, 24]
        funcs = [func(name, place) for name, place in zip((2, 3, 6, 7, 9, 11), places)]
        closes = [close(name, place - 20, place) for name, place in zip((2, 3, 6, 7, 9, 11), places)]
        codes, told = closed((whole(funcs), tuple(range(12))))
        self.assertEqual(codes[0], (0, (), (), whole(closes)))
        self.assertEqual(codes[1:], tuple([(place, (), (0,), body(x(0))) for place in sorted(places)]))
        self.assertEqual(told, tuple(range(12)))

    def test_a_param_is_no_kept_name(self):
        codes, places = closed((body(("func", 0, (1, 2), body(x(1)), 5), x(0)), (5, 5, 5)))
        self.assertEqual(codes[1], (5, (1, 2), (), body(x(1))))

    def test_a_function_at_place_nought(self):
        codes, places = closed((body(("func", 0, (), body(n(1)), 0), x(0)), (0,)))
        self.assertEqual(codes, ((0, (), (), body(("close", 0, 1, (), 0), x(0))), (0, (), (), body(n(1)))))

    def test_boxes_are_kept(self):
        codes, places = closed(boxed(named(read_program("(let x 1 (fn (y) (set x y)))"))))
        box, close = codes[0][3][0]
        self.assertEqual((box[0], close[0]), ("box", "close"))
        self.assertEqual(close[2:], (1, (box[1],), 9))
        self.assertEqual(codes[1][2], (box[1],))

    def test_nothing_is_changed_and_the_answer_is_the_same(self):
        first = boxed(named(read_program("(let x (ask) (fn (y) (fn (z) (set x (add y z)))))")))
        kept = copy.deepcopy(first)
        self.assertEqual(closed(first), closed(first))
        self.assertEqual(first, kept)


class ManyPrograms(unittest.TestCase):
    def opened(self, whole, codes):
        """The body with its functions put back in the place of the closes."""
        steps = []
        for step in whole[0]:
            if step[0] == "close":
                place, params, kept, inside = codes[step[2]]
                self.assertEqual((step[3], step[4]), (kept, place))
                step = ("func", step[1], params, self.opened(inside, codes), place)
            elif step[0] == "if":
                step = step[:3] + (self.opened(step[3], codes), self.opened(step[4], codes)) + step[5:]
            elif step[0] == "match":
                step = step[:5] + (self.opened(step[5], codes), self.opened(step[6], codes)) + step[7:]
            elif step[0] == "try":
                step = step[:2] + (self.opened(step[2], codes),) + step[3:5] + (self.opened(step[5], codes), step[6])
            steps.append(step)
        return (tuple(steps), whole[1])

    def test_codes_of_many_programs(self):
        for program in many_programs(71):
            first = boxed(named(program))
            codes, places = closed(first)
            self.assertEqual((type(codes), type(places), places), (tuple, tuple, first[1]))
            self.assertEqual(self.opened(codes[0][3], codes), first[0])
            self.assertEqual(codes[0][:3], (0, (), ()))
            funcs = [step for step in all_steps(first[0]) if step[0] == "func"]
            self.assertEqual([code[0] for code in codes[1:]], sorted([step[4] for step in funcs]))
            self.assertEqual(sorted([step[2] for code in codes for step in all_steps(code[3]) if step[0] == "close"]),
                             list(range(1, len(codes))))
            for place, params, kept, inside in codes:
                self.uses_no_other_names(params, kept, inside)

    def uses_no_other_names(self, params, kept, inside):
        self.assertEqual(list(kept), sorted(set(kept)))
        self.assertFalse([step for step in all_steps(inside) if step[0] == "func"])
        uses = mentioned(inside)
        given = given_in(inside)
        self.assertEqual([name for name in uses if name not in given and name not in params], list(kept))
        self.assertFalse([name for name in kept if name in given or name in params])
        check_well_made(self, inside, params + kept)


if __name__ == "__main__":
    unittest.main()

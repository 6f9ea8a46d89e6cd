import copy
import unittest

from samples import many_programs
from shapes import all_given, all_steps, bodies_of, body, check_well_made, n, x
from spacewright.boxing import boxed, set_names
from spacewright.naming import named
from spacewright.reading import read_program


class SetNames(unittest.TestCase):
    def told(self, whole, names):
        self.assertEqual(set_names(whole), names)
        self.assertIs(type(set_names(whole)), list)

    def test_starts_reads_and_sets(self):
        self.told(body(n(1)), [])
        self.told(body(("start", 4, n(1), 0), x(4)), [4])
        self.told(body(("read", 4, 7), x(4)), [7])
        self.told(body(("set", 4, 7, x(3), 0), x(4)), [7])

    def test_other_steps_and_other_names(self):
        self.told(body(("ask", 1, 0), ("math", 2, "add", x(1), x(1), 0), ("make", 3, "t", (x(2),), 0),
                       ("tell", 4, x(1), 0), ("raise", 5, "w", x(4), 0), ("call", 6, x(1), (x(2),), 0, False),
                       ("func", 7, (8,), body(x(8)), 0), ("match", 9, x(1), "t", (10,), body(x(10)), body(n(1)), 0),
                       ("try", 11, body(n(1)), "w", 12, body(x(12)), 0), x(1)), [])

    def test_rising_and_each_once(self):
        self.told(body(("start", 9, n(1), 0), ("start", 3, n(1), 0), ("read", 5, 9), ("set", 6, 3, x(5), 0),
                       ("read", 7, 3), ("set", 8, 9, x(7), 0), ("read", 10, 2), x(10)), [2, 3, 9])

    def test_within_inner_bodies(self):
        self.told(body(
            ("func", 1, (20,), body(("set", 2, 20, n(1), 0), x(2)), 0),
            ("if", 3, n(1), body(("read", 4, 21), x(4)), body(("start", 22, n(1), 0), n(1)), 0),
            ("match", 5, n(1), "t", (23, 24), body(("set", 6, 24, x(23), 0), x(6)), body(("read", 7, 25), x(7)), 0),
            ("try", 8, body(("try", 9, body(("read", 10, 26), x(10)), "w", 11, body(n(1)), 0), x(9)), "w", 27,
             body(("set", 12, 27, n(1), 0), x(12)), 0), n(1)), [20, 21, 22, 24, 25, 26, 27])

    def test_bodies_that_are_not_well_made(self):
        self.told(body(("set", 1, 5, n(1), 0), ("ask", 5, 0), ("read", 1, 1), ("start", 1, x(1), 0), x(9)), [1, 5])
        self.told(body(("read", 3, 3), ("func", 3, (3, 3), body(("set", 3, 4, x(3), 0), x(3)), 0), x(8)), [3, 4])

    def test_new_lists_each_time(self):
        whole = body(("start", 4, n(1), 0), n(1))
        set_names(whole).clear()
        self.told(whole, [4])


class Boxed(unittest.TestCase):
    def told(self, first, whole, places):
        self.assertEqual(boxed(first), (whole, places))

    def test_without_names_that_are_set(self):
        for text in ("7", "(fn (x) (match x t (a b) (try a w e (add b e)) (let y (ask) (make t y))))"):
            first = named(read_program(text))
            self.told(first, first[0], first[1])

    def test_starts_reads_and_sets(self):
        first = (body(("start", 0, n(3), 5), ("read", 1, 0), ("set", 2, 0, x(1), 8), ("tell", 3, x(2), 9), x(3)),
                 (5, 7, 8, 9))
        self.told(first, body(("box", 0, n(3), 5), ("load", 1, 0), ("store", 2, 0, x(1), 8), ("tell", 3, x(2), 9),
                              x(3)), (5, 7, 8, 9))

    def test_within_inner_bodies(self):
        first = (body(("start", 0, n(3), 5), ("func", 1, (2,), body(
            ("if", 3, x(2), body(("set", 4, 0, x(2), 6), x(4)), body(("read", 5, 0), x(5)), 7), x(3)), 8), x(1)),
            (5, 8, 8, 7, 6, 9))
        self.told(first, body(("box", 0, n(3), 5), ("func", 1, (2,), body(
            ("if", 3, x(2), body(("store", 4, 0, x(2), 6), x(4)), body(("load", 5, 0), x(5)), 7), x(3)), 8), x(1)),
            (5, 8, 8, 7, 6, 9))

    def test_a_parameter_that_is_set(self):
        first = (body(("func", 0, (1, 2, 3), body(("set", 4, 2, x(1), 6), ("read", 5, 2), x(5)), 3), x(0)),
                 (3, 3, 3, 3, 6, 7))
        self.told(first, body(("func", 0, (1, 6, 3), body(
            ("box", 2, x(6), 3), ("store", 4, 2, x(1), 6), ("load", 5, 2), x(5)), 3), x(0)), (3, 3, 3, 3, 6, 7, 3))

    def test_a_parameter_that_is_set_by_a_function_within(self):
        first = (body(("func", 0, (1,), body(("func", 2, (), body(("set", 3, 1, n(1), 6), x(3)), 5), x(2)), 4), x(0)),
                 (4, 4, 5, 6))
        self.told(first, body(("func", 0, (4,), body(
            ("box", 1, x(4), 4), ("func", 2, (), body(("store", 3, 1, n(1), 6), x(3)), 5), x(2)), 4), x(0)),
            (4, 4, 5, 6, 4))

    def test_a_name_of_a_match_that_is_set(self):
        first = (body(("match", 0, n(1), "t", (1, 2), body(("set", 3, 1, x(2), 6), x(3)), body(n(9)), 4), x(0)),
                 (4, 4, 4, 6))
        self.told(first, body(("match", 0, n(1), "t", (4, 2), body(
            ("box", 1, x(4), 4), ("store", 3, 1, x(2), 6), x(3)), body(n(9)), 4), x(0)), (4, 4, 4, 6, 4))

    def test_a_name_of_a_try_that_is_set(self):
        first = (body(("try", 0, body(("ask", 1, 7), x(1)), "w", 2, body(("set", 3, 2, n(1), 6), x(3)), 4), x(0)),
                 (4, 7, 4, 6))
        self.told(first, body(("try", 0, body(("ask", 1, 7), x(1)), "w", 4, body(
            ("box", 2, x(4), 4), ("store", 3, 2, n(1), 6), x(3)), 4), x(0)), (4, 7, 4, 6, 4))

    def test_several_of_one_step_in_the_order_of_the_step(self):
        first = (body(("func", 0, (3, 1, 2), body(
            ("set", 4, 1, n(1), 6), ("set", 5, 3, n(1), 7), ("set", 6, 2, n(1), 8), x(6)), 4), x(0)),
            (4, 4, 4, 4, 6, 7, 8))
        got, places = boxed(first)
        params, (steps, last) = got[0][0][2:4]
        self.assertEqual(sorted(params), [7, 8, 9])
        self.assertEqual(steps[:3], (("box", 3, x(params[0]), 4), ("box", 1, x(params[1]), 4),
                                     ("box", 2, x(params[2]), 4)))
        self.assertEqual(steps[3:], (("store", 4, 1, n(1), 6), ("store", 5, 3, n(1), 7), ("store", 6, 2, n(1), 8)))
        self.assertEqual((last, places), (x(6), (4, 4, 4, 4, 6, 7, 8, 4, 4, 4)))

    def test_the_place_of_a_box_is_that_of_its_name(self):
        for text, kind in (("(fn (x) (set x 1))", "func"), ("(match 1 t (x) (set x 1) 2)", "match"),
                           ("(try 1 w x (set x 1))", "try")):
            text = "(do (ask) " + text + ")"
            whole, places = boxed(named(read_program(text)))
            boxes = [step for step in all_steps(whole) if step[0] == "box"]
            self.assertEqual([step[3] for step in boxes], [10])
            self.assertEqual(places[boxes[0][1]], 10)
            self.assertEqual(places[boxes[0][2][1]], 10)

    def test_nothing_is_changed_and_the_answer_is_the_same(self):
        first = named(read_program("(fn (x) (do (set x 1) (let y 2 (set y x))))"))
        kept = copy.deepcopy(first)
        self.assertEqual(boxed(first), boxed(first))
        self.assertEqual(first, kept)


class ManyPrograms(unittest.TestCase):
    def unboxed(self, whole, many):
        """The named body again, by the words of [42] and [43] read from behind."""
        words = {"box": "start", "load": "read", "store": "set"}
        for_new = {step[2][1]: step[1] for step in all_steps(whole)
                   if step[0] == "box" and step[2][0] == "name" and step[2][1] >= many}

        def body_again(inside):
            steps = [step for step in inside[0] if not (step[0] == "box" and step[1] in for_new.values())]
            return (tuple([step_again(step) for step in steps]), inside[1])

        def step_again(step):
            word = words.get(step[0], step[0])
            if word == "func":
                return step[:2] + (names_again(step[2]), body_again(step[3])) + step[4:]
            if word == "if":
                return step[:3] + (body_again(step[3]), body_again(step[4])) + step[5:]
            if word == "match":
                return step[:4] + (names_again(step[4]), body_again(step[5]), body_again(step[6])) + step[7:]
            if word == "try":
                return step[:2] + (body_again(step[2]), step[3], names_again(step[4:5])[0], body_again(step[5]), step[6])
            return (word,) + step[1:]

        def names_again(names):
            return tuple([for_new.get(name, name) for name in names])

        return body_again(whole)

    def test_the_same_steps_but_these(self):
        several = 0
        for program in many_programs(61):
            first = named(program)
            whole, places = boxed(first)
            many = len(first[1])
            self.assertEqual(self.unboxed(whole, many), first[0])
            self.assertEqual(places[:many], first[1])
            self.assertEqual((type(whole), type(places)), (tuple, tuple))
            self.assertEqual(sorted(all_given(whole)), list(range(len(places))))
            check_well_made(self, whole)
            self.assertFalse([step for step in all_steps(whole) if step[0] in ("start", "read", "set")])
            several += self.boxes_stand_first(whole, places, many)
        self.assertGreater(several, 0)

    def boxes_stand_first(self, whole, places, many):
        several = 0
        for step in all_steps(whole):
            for names, inside in bodies_of(step):
                new = [name for name in names if name >= many]
                first = inside[0][:len(new)]
                self.assertEqual([box[0] for box in first], ["box"] * len(new))
                self.assertEqual([box[2] for box in first], [("name", name) for name in new])
                self.assertEqual([box[3] for box in first], [places[name] for name in new])
                self.assertEqual([places[box[1]] for box in first], [places[name] for name in new])
                several += len(new) > 1
        return several


if __name__ == "__main__":
    unittest.main()

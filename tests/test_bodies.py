import copy
import unittest

from samples import lively_programs
from shapes import all_given, all_steps, atoms_of, bodies_of
from spacewright.bodies import given_in, inner, mentioned, operands
from spacewright.naming import named

ONE, OTHER = ("name", 11), ("number", 12)
# Three bodies that are told apart by their last atoms.
A, B = ((("ask", 21, 0),), ("name", 21)), ((), ("number", 22))

# Each step with its operands and its inner bodies.
STEPS = [
    (("start", 1, ONE, 5), [ONE], []),
    (("read", 1, 9), [("name", 9)], []),
    (("set", 1, 9, OTHER, 5), [("name", 9), OTHER], []),
    (("math", 1, "sub", ONE, OTHER, 5), [ONE, OTHER], []),
    (("math", 1, "sub", OTHER, ONE, 5), [OTHER, ONE], []),
    (("make", 1, "t", (), 5), [], []),
    (("make", 1, "t", (OTHER, ONE, ONE), 5), [OTHER, ONE, ONE], []),
    (("tell", 1, ONE, 5), [ONE], []),
    (("ask", 1, 5), [], []),
    (("raise", 1, "w", OTHER, 5), [OTHER], []),
    (("func", 1, (), A, 5), [], [((), A)]),
    (("func", 1, (7, 8), A, 5), [], [((7, 8), A)]),
    (("call", 1, ONE, (), 5, False), [ONE], []),
    (("call", 1, ONE, (OTHER, ("name", 3)), 5, True), [ONE, OTHER, ("name", 3)], []),
    (("if", 1, ONE, A, B, 5), [ONE], [((), A), ((), B)]),
    (("match", 1, ONE, "t", (), A, B, 5), [ONE], [((), A), ((), B)]),
    (("match", 1, ONE, "t", (7, 8), A, B, 5), [ONE], [((7, 8), A), ((), B)]),
    (("try", 1, A, "w", 7, B, 5), [], [((), A), ((7,), B)]),
    (("box", 1, ONE, 5), [ONE], []),
    (("load", 1, 9), [("name", 9)], []),
    (("store", 1, 9, OTHER, 5), [("name", 9), OTHER], []),
    (("close", 1, 3, (), 5), [], []),
    (("close", 1, 3, (4, 9, 6), 5), [("name", 4), ("name", 9), ("name", 6)], []),
]


class Steps(unittest.TestCase):
    def test_operands(self):
        for step, atoms, bodies in STEPS:
            self.assertEqual(operands(step), atoms, step)
            self.assertIs(type(operands(step)), list)

    def test_inner_bodies(self):
        for step, atoms, bodies in STEPS:
            self.assertEqual(inner(step), bodies, step)
            self.assertIs(type(inner(step)), list)
            for one in inner(step):
                self.assertEqual((type(one), type(one[0])), (tuple, tuple))

    def test_new_lists_each_time(self):
        for step, atoms, bodies in STEPS:
            kept = copy.deepcopy(step)
            operands(step).append(1)
            inner(step).append(1)
            operands(step).clear()
            inner(step).clear()
            self.assertEqual((operands(step), inner(step), step), (atoms, bodies, kept))


class Names(unittest.TestCase):
    def given(self, body, names):
        self.assertEqual(given_in(body), names)
        self.assertIs(type(given_in(body)), list)

    def used(self, body, names):
        self.assertEqual(mentioned(body), names)
        self.assertIs(type(mentioned(body)), list)

    def test_a_body_without_steps(self):
        self.given(((), ("number", 3)), [])
        self.used(((), ("number", 3)), [])
        self.given(((), ("name", 3)), [])
        self.used(((), ("name", 3)), [3])

    def test_of_each_step_alone(self):
        for step, atoms, bodies in STEPS:
            body = ((step,), ("number", 0))
            within = {1: True}
            uses = {atom[1]: True for atom in atoms if atom[0] == "name"}
            for names, one in bodies:
                within.update({name: True for name in names})
                if one == A:
                    within[21] = True
                    uses[21] = True
            self.given(body, sorted(within))
            self.used(body, sorted(uses))

    def test_numbers_are_no_names(self):
        body = ((("math", 30, "add", ("number", 4), ("name", 5), 6), ("tell", 7, ("number", 8), 9)), ("number", 10))
        self.given(body, [7, 30])
        self.used(body, [5])

    def test_rising_and_each_once(self):
        body = ((("ask", 9, 0), ("ask", 2, 0), ("math", 5, "add", ("name", 9), ("name", 2), 1),
                 ("make", 100, "t", (("name", 9), ("name", 5), ("name", 9)), 2), ("set", 11, 2, ("name", 2), 3)),
                ("name", 9))
        self.given(body, [2, 5, 9, 11, 100])
        self.used(body, [2, 5, 9])

    def test_within_inner_bodies(self):
        deep = ((("func", 40, (30,), ((("try", 20, ((("read", 10, 99),), ("name", 10)), "w", 8,
                                        ((("load", 9, 98),), ("name", 8)), 1),), ("name", 97)), 1),), ("name", 96))
        body = ((("if", 60, ("name", 95), ((("match", 70, ("name", 94), "t", (50, 51), deep, ((), ("name", 50)), 2),),
                                            ("number", 1)), ((), ("name", 93)), 3),), ("name", 60))
        self.given(body, [8, 9, 10, 20, 30, 40, 50, 51, 60, 70])
        self.used(body, [8, 10, 50, 60, 93, 94, 95, 96, 97, 98, 99])
        self.given(deep, [8, 9, 10, 20, 30, 40])

    def test_the_name_that_a_step_gives_is_none_that_it_uses(self):
        self.used(((("ask", 3, 0), ("func", 4, (5,), ((), ("number", 1)), 0)), ("number", 1)), [])

    def test_new_lists_each_time(self):
        body = ((("ask", 3, 0),), ("name", 3))
        given_in(body).clear()
        mentioned(body).append(8)
        self.given(body, [3])
        self.used(body, [3])

    def test_of_many_programs(self):
        for program in lively_programs(31, 150):
            body, places = named(program)
            self.given(body, sorted(all_given(body)))
            uses = {}
            for step in all_steps(body):
                for atom in atoms_of(step) + [within[1] for names, within in bodies_of(step)]:
                    uses[atom] = True
            uses[body[1]] = True
            self.used(body, sorted([atom[1] for atom in uses if atom[0] == "name"]))
            for step in all_steps(body):
                self.assertEqual((operands(step), inner(step)), (atoms_of(step), bodies_of(step)))


if __name__ == "__main__":
    unittest.main()

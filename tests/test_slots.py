import copy
import unittest

from needmodel import chance_codes, slots_model
from samples import many_programs
from shapes import all_given, body, n, x
from spacewright.boxing import boxed
from spacewright.closing import closed
from spacewright.naming import named
from spacewright.needed import needed
from spacewright.slots import slots_of


def code(params, kept, *things):
    return (7, params, kept, body(*things))


class Slots(unittest.TestCase):
    def told(self, one, many, slots):
        self.assertEqual(slots_of(one), (many, slots))

    def test_no_names(self):
        self.told(code((), (), n(1)), 0, {})

    def test_params_and_kept_names_in_their_order(self):
        self.told(code((9, 2, 5, 1), (), n(1)), 4, {9: 0, 2: 1, 5: 2, 1: 3})
        self.told(code((), (3, 4), x(3)), 2, {3: 0, 4: 1})
        self.told(code((9, 2), (3, 4, 8), n(1)), 5, {9: 0, 2: 1, 3: 2, 4: 3, 8: 4})

    def test_the_least_free_slot(self):
        self.told(code((1, 2, 3), (), ("tell", 4, x(1), 0), ("make", 5, "t", (x(1), x(3)), 0), x(5)),
                  3, {1: 0, 2: 1, 3: 2, 4: 1, 5: 0})
        self.told(code((1, 2, 3), (), ("tell", 4, x(1), 0), ("make", 5, "t", (x(1), x(2), x(3)), 0), x(5)),
                  4, {1: 0, 2: 1, 3: 2, 4: 3, 5: 0})

    def test_the_slot_of_an_operand_that_is_not_needed_any_more(self):
        self.told(code((), (), ("ask", 0, 0), ("ask", 1, 0), ("math", 2, "add", x(0), x(1), 0), ("tell", 3, x(2), 0), x(3)),
                  2, {0: 0, 1: 1, 2: 0, 3: 0})

    def test_names_that_may_not_share(self):
        self.told(code((), (), ("ask", 0, 0), ("ask", 1, 0), ("ask", 2, 0), ("make", 3, "t", (x(0), x(1), x(2)), 0), x(3)),
                  3, {0: 0, 1: 1, 2: 2, 3: 0})
        self.told(code((), (), ("ask", 0, 0), ("tell", 1, n(1), 0), ("tell", 2, x(1), 0), x(0)), 2, {0: 0, 1: 1, 2: 1})

    def test_a_name_that_nothing_behind_uses(self):
        self.told(code((1,), (), ("tell", 2, n(5), 0), ("tell", 3, n(6), 0), x(1)), 2, {1: 0, 2: 1, 3: 1})
        self.told(code((1,), (), ("tell", 2, n(5), 0), ("tell", 3, n(6), 0), n(1)), 1, {1: 0, 2: 0, 3: 0})

    def test_a_step_with_inner_bodies_ahead_of_what_is_in_them(self):
        self.told(code((1, 2), (), ("if", 3, x(1), body(("ask", 4, 0), ("ask", 5, 0), ("math", 6, "add", x(4), x(5), 0),
                                                        x(6)), body(("ask", 7, 0), x(7)), 0),
                       ("make", 8, "t", (x(2), x(3)), 0), x(8)),
                  3, {1: 0, 2: 1, 3: 0, 4: 0, 5: 2, 6: 0, 7: 0, 8: 0})

    def test_what_inner_bodies_of_a_later_step_use(self):
        self.told(code((1, 2), (), ("ask", 3, 0), ("if", 4, x(3), body(x(1)), body(x(2)), 0), x(4)),
                  3, {1: 0, 2: 1, 3: 2, 4: 0})

    def test_names_given_at_the_same_beginning(self):
        self.told(code((1, 2), (), ("match", 3, x(1), "t", (9, 8, 7), body(x(8)), body(n(1)), 0), x(2)),
                  4, {1: 0, 2: 1, 3: 0, 9: 0, 8: 2, 7: 3})
        self.told(code((1, 2), (), ("match", 3, x(2), "t", (9, 8), body(("math", 4, "add", x(9), x(1), 0), x(4)), body(n(1)),
                                    0), x(3)),
                  3, {1: 0, 2: 1, 3: 0, 9: 1, 8: 2, 4: 0})

    def test_a_beginning_keeps_away_from_what_its_own_body_uses_alone(self):
        self.told(code((1, 2), (), ("match", 3, n(1), "t", (4,), body(x(1)), body(x(2)), 0), x(3)),
                  2, {1: 0, 2: 1, 3: 0, 4: 1})
        self.told(code((1, 2), (), ("match", 3, n(1), "t", (4,), body(x(2)), body(x(1)), 0), x(3)),
                  2, {1: 0, 2: 1, 3: 0, 4: 0})

    def test_the_name_of_a_try(self):
        self.told(code((1, 2), (), ("try", 3, body(x(1)), "w", 4, body(x(4)), 0), n(1)), 2, {1: 0, 2: 1, 3: 0, 4: 0})
        self.told(code((1, 2), (), ("try", 3, body(x(2)), "w", 4, body(x(1)), 0), n(1)), 2, {1: 0, 2: 1, 3: 0, 4: 1})
        self.told(code((1, 2), (), ("try", 3, body(n(1)), "w", 4, body(x(1)), 0), x(2)), 3, {1: 0, 2: 1, 3: 0, 4: 2})

    def test_in_the_one_of_a_try_what_its_other_uses_is_left_alone(self):
        self.told(code((1, 2), (), ("try", 3, body(("ask", 4, 0), ("tell", 5, x(4), 0), x(5)), "w", 6,
                                    body(("math", 7, "add", x(1), x(6), 0), x(7)), 0), n(1)),
                  2, {1: 0, 2: 1, 3: 0, 4: 1, 5: 1, 6: 1, 7: 0})

    def test_a_box_that_is_kept(self):
        self.told(code((1,), (2,), ("box", 3, x(1), 0), ("store", 4, 2, n(5), 0), ("load", 5, 3), ("close", 6, 50, (2, 3), 0),
                       ("make", 7, "t", (x(5), x(6)), 0), x(7)),
                  3, {1: 0, 2: 1, 3: 0, 4: 2, 5: 2, 6: 0, 7: 0})


class Many(unittest.TestCase):
    def check(self, one):
        kept = copy.deepcopy(one)
        many, slots = slots_of(one)
        self.assertEqual((many, slots), slots_model(one))
        self.assertEqual([type(slots_of(one)), type(many), type(slots)], [tuple, int, dict])
        self.assertEqual(sorted(slots), sorted(list(one[1] + one[2]) + all_given(one[3])))
        self.assertEqual(many, 1 + max(slots.values(), default=-1))
        for path, ahead, behind in needed(one):
            for names in (ahead, behind):
                self.assertEqual(len({slots[name] for name in names}), len(names))
        slots.clear()
        self.assertEqual((slots_of(one), one), (slots_model(one), kept))

    def test_codes_of_many_programs(self):
        for program in many_programs(111):
            for one in closed(boxed(named(program)))[0]:
                self.check(one)

    def test_codes_written_by_hand(self):
        for one in chance_codes(112, 300):
            self.check(one)


if __name__ == "__main__":
    unittest.main()

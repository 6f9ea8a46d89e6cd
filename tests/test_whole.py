"""What holds over the whole program: all five languages have the same run, full is told at the same place whatever every
is, and each name, step and row has the place of its part."""

import unittest

from closedmodel import closed_model
from model import model_run
from samples import STORING, TEXTS_TO_RUN, chance_programs, lively_programs, many_programs, one_of_each_kind, parts_of
from shapes import all_steps, bodies_of, place_of
from spacewright.boxing import boxed
from spacewright.chain import Chain
from spacewright.closedrun import full_closed, run_closed
from spacewright.closing import closed
from spacewright.machine import full_rows, run_rows
from spacewright.namedrun import run_named
from spacewright.naming import named
from spacewright.reading import write_program
from spacewright.rowing import rows_of
from spacewright.sourcerun import run_source

INPUTS = ([], [3, 1, -2, 5], [0, 10 ** 29, -(10 ** 29)])
# The kind of the part whose place a step or a row has.
PARTS = {
    "set": "set", "store": "set", "math": "math", "make": "make", "tell": "tell", "ask": "ask", "raise": "raise", "func": "fn",
    "close": "fn", "call": "call", "last": "call", "if": "if", "test": "if", "match": "match", "try": "try",
}


def passes(program):
    first = named(program)
    second = boxed(first)
    third = closed(second)
    return (first, second, third, rows_of(third))


class SameRun(unittest.TestCase):
    def same(self, program, inputs, most):
        first, second, third, rows = passes(program)
        run = model_run(program, inputs, most)
        self.assertEqual(run_source(program, inputs, most), run)
        self.assertEqual(run_named(first, inputs, most), run)
        self.assertEqual(run_named(second, inputs, most), run)
        self.assertEqual(run_closed(third, inputs, most), run)
        for every in (0, 1, 3):
            self.assertEqual(run_rows(rows, inputs, most, None, every), run)
        return run[0][0]

    def test_many_programs(self):
        ends = {}
        for program in lively_programs(181, 150) + lively_programs(182, 30, depth=7) + one_of_each_kind() + chance_programs(183, 60):
            for inputs in INPUTS:
                ends[self.same(program, inputs, 300)] = True
        self.assertEqual(sorted(ends), ["deep", "dry", "fault", "value"])

    def test_each_bound(self):
        for program in lively_programs(184, 25):
            for most in range(len(run_source(program, [2], 40)[2]) + 2):
                self.same(program, [2], most)

    def test_texts(self):
        for text in TEXTS_TO_RUN + STORING:
            chain = Chain(text)
            for most in (0, 1, 5, 11, 40, 1000, 2000):
                runs = [chain.run(word, [6, 7], most) for word in ("source", "named", "boxed", "closed", "rows")]
                self.assertEqual(runs, runs[:1] * 5)

    def test_programs_written_and_read(self):
        many = 0
        for program in lively_programs(185, 200):
            text = write_program(program)
            if len(text) <= 600:
                many += 1
                chain = Chain(text)
                runs = [chain.run(word, [4, -1], 200) for word in ("source", "named", "boxed", "closed", "rows")]
                self.assertEqual(runs, runs[:1] * 5)
                self.assertEqual(runs[0][0][:1], run_source(program, [4, -1], 200)[0][:1])
        self.assertGreater(many, 100)


class SameRoom(unittest.TestCase):
    def test_full_at_the_same_place(self):
        full = 0
        for program in lively_programs(186, 80) + lively_programs(187, 20, depth=7):
            third, rows = passes(program)[2:]
            for room in (0, 2, 3, 5, 8, 12, 25):
                for most in (20, 200):
                    run, due = closed_model(third, [1, 2], most, room)
                    self.assertEqual(run_closed(third, [1, 2], most, room), run)
                    for every in (0, 1, 2, 7):
                        self.assertEqual(run_rows(rows, [1, 2], most, room, every), run)
                        told = full_rows(rows, [1, 2], most, room, every)
                        if due is None:
                            self.assertIsNone(told)
                        else:
                            held = sum([1 + len(fields) for kind, fields in full_closed(third, [1, 2], most, room)[3]])
                            self.assertEqual(told, (due[0], due[1], held))
                            self.assertEqual(run[0], ("full", due[0]))
                            self.assertGreater(told[1] + told[2], room)
                            full += 1
        self.assertGreater(full, 500)

    def test_just_the_room_that_is_due(self):
        for text in STORING:
            chain = Chain(text)
            whole = chain.run("source", [])
            room, places = 0, []
            while chain.full("rows", [], 1000, room) is not None:
                place, asked, used = chain.full("rows", [], 1000, room)
                for word in ("closed", "rows"):
                    # With one cell less than is due it is full just there, with what is due it goes on.
                    self.assertEqual(chain.full(word, [], 1000, asked + used - 1), (place, asked, used))
                    self.assertEqual(chain.run(word, [], 1000, asked + used - 1)[0], ("full", place))
                    self.assertNotEqual(chain.full(word, [], 1000, asked + used), (place, asked, used))
                room = asked + used
                places.append(place)
            self.assertTrue(places)
            for every in (0, 1, 2, 50):
                self.assertEqual(chain.run("rows", [], 1000, room, every), whole)
            self.assertEqual(chain.run("closed", [], 1000, room), whole)


class Places(unittest.TestCase):
    def test_each_name_step_and_row_has_the_place_of_its_part(self):
        for program in many_programs(188):
            parts = {part[1]: part for part in parts_of(program)}
            first, second, third, rows = passes(program)
            for body, places in (first, second):
                self.check_steps(all_steps(body), places, parts)
            for code in third[0]:
                self.check_steps(all_steps(code[3]), third[1], parts)
            for code in third[0][1:]:
                self.assertEqual([third[1][name] for name in code[1]], [code[0]] * len(code[1]))
            self.assertEqual([code[0] for code in rows[0]], [code[0] for code in third[0]])
            for row in rows[1]:
                if row[0] in PARTS:
                    place = row[4] if row[0] in ("make", "close", "call") else row[-1]
                    self.check_part(row, parts[place])
                elif row[0] == "box":
                    self.assertIn(parts[row[3]][0], ("let", "fn", "match", "try"))

    def check_steps(self, steps, places, parts):
        for step in steps:
            place = place_of(step)
            if step[0] in PARTS:
                self.check_part(step, parts[place])
                self.assertEqual(places[step[1]], place)
            elif step[0] in ("start", "box"):
                self.assertIn(parts[place][0], ("let", "fn", "match", "try"))
                self.assertEqual(places[step[1]], place)
            else:
                self.assertIn(step[0], ("read", "load"))
                self.assertEqual(parts[places[step[1]]][0], "name")
            for names, within in bodies_of(step):
                self.assertEqual([places[name] for name in names], [place] * len(names))

    def check_part(self, told, part):
        self.assertEqual(part[0], PARTS[told[0]])
        if told[0] == "math":
            self.assertEqual(part[2], told[2])
        if told[0] == "make":
            self.assertEqual((part[2], len(part[3])), (told[2], len(told[3])))


if __name__ == "__main__":
    unittest.main()

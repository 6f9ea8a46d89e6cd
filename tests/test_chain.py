import copy
import unittest

from moveheap import told_and_moves
from samples import STORING, TEXTS_TO_RUN
from spacewright.boxing import boxed
from spacewright.chain import Chain
from spacewright.closedrun import full_closed, run_closed
from spacewright.closing import closed
from spacewright.errors import BadText, NoLine, NoName, SpaceError
from spacewright.machine import full_rows, run_rows
from spacewright.namedrun import run_named
from spacewright.naming import named
from spacewright.reading import read_program
from spacewright.rowing import rows_of
from spacewright.sourcerun import run_source

TEXT = "(let x (ask) (let f (fn (n) (set x (add x n))) (do (tell (call f 5)) (make pair x f))))"
WORDS = ("source", "named", "boxed", "closed", "rows")


class Sly:
    """Is equal to whatever it is held against."""

    def __eq__(self, other):
        return True

    def __hash__(self):
        return hash("source")


NO_WORDS = [
    "", "Source", "ROWS", "row", "rows ", " rows", "sources", "source\n", "all", "closed rows", "name", None, 0, 1, True, False,
    -1, 1.5, b"source", ["source"], ("source",), {"source": 1}, {"source"}, Sly(), object(), Chain, [], (), {},
]


class Told(unittest.TestCase):
    def test_each_word(self):
        for text in [TEXT, "5", " ( add 1   2 ) "] + STORING:
            chain = Chain(text)
            program = read_program(text)
            first = named(program)
            second = boxed(first)
            third = closed(second)
            for word, told in zip(WORDS, (program, first, second, third, rows_of(third))):
                self.assertEqual(chain.told(word), told)
                self.assertEqual(chain.told(word), told)

    def test_the_program_that_was_read_has_its_places(self):
        self.assertEqual(Chain("  (ask)").told("source"), ("ask", 2))

    def test_texts_that_are_refused(self):
        for text, place in ((None, 0), (5, 0), (["5"], 0), ("", 0), ("(add 1", 6), ("(add 1 2) 3", 10), ("5" * 13, 0), (" " * 601, 600)):
            with self.assertRaises(BadText) as caught:
                Chain(text)
            self.assertEqual(caught.exception.place, place)
        for text, place in (("x", 0), ("(let x 1 (add x y))", 16)):
            with self.assertRaises(NoName) as caught:
                Chain(text)
            self.assertEqual(caught.exception.place, place)

    def test_any_other_thing_in_the_place_of_the_word(self):
        chain = Chain(TEXT)
        for thing in NO_WORDS:
            with self.assertRaises(NoLine) as caught:
                chain.told(thing)
            self.assertIsInstance(caught.exception, SpaceError)
            with self.assertRaises(NoLine):
                chain.run(thing, [])
            with self.assertRaises(NoLine):
                chain.run(thing, [1], 5, 6, 7)
            with self.assertRaises(NoLine):
                chain.full(thing, [], 1000, 5)
        for word in ("source", "named", "boxed"):
            with self.assertRaises(NoLine):
                chain.full(word, [], 1000, 5)
            with self.assertRaises(NoLine):
                chain.full(word, [], 1000, 400, 1)
        self.assertEqual(chain.told("source"), read_program(TEXT))


class Runs(unittest.TestCase):
    def test_run(self):
        chain = Chain(TEXT)
        for word in WORDS:
            told = (("value", ("block", "pair", (12, ("fn", 20)))), [12], [7, 20, 57, 35, 28, 51, 69], 1)
            self.assertEqual(chain.run(word, [7]), told)
            self.assertEqual(chain.run(word, [7], 1000, None, 0), told)
            self.assertEqual(chain.run(word, [7], 7), told)
            self.assertEqual(chain.run(word, [7], 6), (("dry",), [12], [7, 20, 57, 35, 28, 51], 1))
            self.assertEqual(chain.run(word, [], 2), (("dry",), [], [7, 20], 0))

    def test_the_bound_left_out(self):
        chain = Chain("(let f 0 (do (set f (fn () (call f))) (call f)))")
        for word in WORDS:
            self.assertEqual(len(chain.run(word, [])[2]), 1000)
            self.assertEqual(len(chain.run(word, [], 2000)[2]), 2000)

    def test_room_and_every_that_are_left_aside(self):
        chain = Chain(TEXT)
        run = chain.run("source", [7])
        for word in ("source", "named", "boxed"):
            for room in (None, 0, 3, 400):
                for every in (0, 1, 50):
                    self.assertEqual(chain.run(word, [7], 1000, room, every), run)
        for room in (None, 0, 3, 6, 400):
            for every in (0, 1, 50):
                self.assertEqual(chain.run("closed", [7], 1000, room, every), chain.run("closed", [7], 1000, room))
                self.assertEqual(chain.run("rows", [7], 1000, room, every), chain.run("closed", [7], 1000, room))

    def test_rooms(self):
        chain = Chain(TEXT)
        for word in ("closed", "rows"):
            # A box of two cells, a function of two, and a block of three.
            self.assertEqual(chain.run(word, [7], 1000, 1), (("full", 0), [], [7], 0))
            self.assertEqual(chain.run(word, [7], 1000, 3), (("full", 20), [], [7, 20], 0))
            self.assertEqual(chain.run(word, [7], 1000, 6)[0], ("full", 69))
            self.assertEqual(chain.run(word, [7], 1000, 7), chain.run("source", [7]))

    def test_full(self):
        chain = Chain(TEXT)
        for word in ("closed", "rows"):
            for every in (0, 1, 2, 50):
                self.assertEqual(chain.full(word, [7], 1000, 1, every), (0, 2, 0))
                self.assertEqual(chain.full(word, [7], 1000, 3, every), (20, 2, 2))
                self.assertEqual(chain.full(word, [7], 1000, 6, every), (69, 3, 4))
                self.assertIsNone(chain.full(word, [7], 1000, 7, every))
                self.assertIsNone(chain.full(word, [7], 6, 6, every))
            self.assertEqual(chain.full(word, [7], 1000, 6), (69, 3, 4))
            self.assertIsNone(chain.full(word, [7], 1000, 400))

    def test_every_is_handed_on(self):
        chain = Chain("(do (make t 1) (do (make t 2) (make t 3)))")
        for things, many in (((), 0), ((1000, None, 0), 0), ((1000, None, 1), 3), ((1000, None, 2), 1)):
            self.assertEqual(len(told_and_moves(chain.run, "rows", [], *things)[1]), many)
        for things, many in (((), 0), ((0,), 0), ((1,), 3), ((2,), 1)):
            self.assertEqual(len(told_and_moves(chain.full, "rows", [], 1000, 400, *things)[1]), many)
        self.assertEqual(told_and_moves(chain.run, "closed", [], 1000, 400, 1)[1], [])

    def test_as_the_stages_tell(self):
        for text in TEXTS_TO_RUN + STORING:
            chain = Chain(text)
            program, first, second, third, rows = [chain.told(word) for word in WORDS]
            for most, room, every in ((1000, None, 0), (9, None, 1), (1000, 4, 2), (300, 9, 0)):
                self.assertEqual(chain.run("source", [1, 2], most, room, every), run_source(program, [1, 2], most))
                self.assertEqual(chain.run("named", [1, 2], most, room, every), run_named(first, [1, 2], most))
                self.assertEqual(chain.run("boxed", [1, 2], most, room, every), run_named(second, [1, 2], most))
                self.assertEqual(chain.run("closed", [1, 2], most, room, every), run_closed(third, [1, 2], most, room))
                self.assertEqual(chain.run("rows", [1, 2], most, room, every), run_rows(rows, [1, 2], most, room, every))
                if room is not None:
                    told = full_closed(third, [1, 2], most, room)
                    if told is not None:
                        told = told[:2] + (sum([1 + len(fields) for kind, fields in told[3]]),)
                    self.assertEqual(chain.full("closed", [1, 2], most, room, every), told)
                    self.assertEqual(chain.full("rows", [1, 2], most, room, every), full_rows(rows, [1, 2], most, room, every))

    def test_what_is_told_is_plain(self):
        chain = Chain(TEXT)
        for word in ("closed", "rows"):
            told = chain.full(word, [7], 1000, 6)
            self.assertEqual([type(thing) for thing in (told,) + told], [tuple, int, int, int])
        for word in WORDS:
            told = chain.run(word, [7])
            self.assertEqual([type(thing) for thing in (told,) + told], [tuple, tuple, list, list, int])

    def test_nothing_is_changed_and_the_answer_is_the_same(self):
        chain = Chain(TEXT)
        programs = copy.deepcopy([chain.told(word) for word in WORDS])
        inputs = [7, 8]
        for word in WORDS:
            first = chain.run(word, inputs, 1000, 400, 1)
            again = copy.deepcopy(first)
            first[1].clear()
            first[2].clear()
            self.assertEqual(chain.run(word, inputs, 1000, 400, 1), again)
        for word in ("closed", "rows"):
            self.assertEqual(chain.full(word, inputs, 1000, 4), chain.full(word, inputs, 1000, 4))
        self.assertEqual(inputs, [7, 8])
        self.assertEqual([chain.told(word) for word in WORDS], programs)

    def test_side_by_side(self):
        one, other = Chain("(ask)"), Chain("(tell (ask))")
        self.assertEqual(one.run("rows", [3]), (("value", 3), [], [0], 0))
        self.assertEqual(other.run("rows", [4]), (("value", 4), [4], [6, 0], 0))
        self.assertEqual(one.run("rows", [3]), (("value", 3), [], [0], 0))
        self.assertEqual(one.told("source"), ("ask", 0))


if __name__ == "__main__":
    unittest.main()

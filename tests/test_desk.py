import unittest

from moveheap import told_and_moves
from samples import STORING, TEXTS_TO_RUN
from spacewright.chain import Chain
from spacewright.desk import Desk

WORDS = ("source", "named", "boxed", "closed", "rows")


class Case(unittest.TestCase):
    def setUp(self):
        self.desk = Desk()

    def told(self, *lines):
        """Each line, and behind it its answer."""
        for line, answer in zip(lines[::2], lines[1::2]):
            self.assertEqual(self.desk.answer(line), answer, line)
            self.assertIs(type(self.desk.answer("")), str)

    def no_line(self, *lines):
        for line in lines:
            self.assertEqual(self.desk.answer(line), "no line", line)
            self.assertEqual(Desk().answer(line), "no line", line)


class Lines(Case):
    def test_a_program(self):
        self.told("program (add 1 2)", "ok", "run rows", "value 3 deeds 1 calls 0 log")
        self.told("program (tell 7)", "ok", "run rows", "value 7 deeds 1 calls 0 log 7")

    def test_blanks_in_the_text(self):
        self.told("program  5", "ok", "run source", "value 5 deeds 0 calls 0 log",
                  "program   (  add  1 2 )  ", "ok", "deeds source", "2", "program ( ask)", "ok", "deeds rows", "0")

    def test_program_without_a_text(self):
        self.no_line("program", "Program 5", " program 5", "programs 5", "program\t5", "program(ask)")
        self.told("program ", "bad text 0", "program  ", "bad text 1", "run source", "no program")

    def test_a_program_that_is_refused(self):
        self.told("program 5", "ok", "program (add 1", "bad text 6", "program (add 1 2) 3", "bad text 10",
                  "program x", "no name 0", "program (let x 1 y)", "no name 9", "program " + "(" * 601, "bad text 600",
                  "program " + " " * 600, "bad text 600", "program 5 \t", "bad text 2", "run source", "value 5 deeds 0 calls 0 log")
        desk = Desk()
        self.assertEqual(desk.answer("program x"), "no name 0")
        self.assertEqual(desk.answer("run source"), "no program")

    def test_the_longest_program(self):
        self.told("program " + " " * 599 + "7", "ok", "run rows", "value 7 deeds 0 calls 0 log",
                  "program " + " " * 600 + "7", "bad text 600")

    def test_inputs(self):
        self.told("program (make t (ask) (ask) (ask))", "ok", "run rows", "value [t 0 0 0] deeds 4 calls 0 log",
                  "inputs 5 -6", "ok", "run rows", "value [t 5 -6 0] deeds 4 calls 0 log",
                  "inputs 1", "ok", "run rows", "value [t 1 0 0] deeds 4 calls 0 log",
                  "inputs", "ok", "run rows", "value [t 0 0 0] deeds 4 calls 0 log")

    def test_how_many_inputs(self):
        asks = "(ask)"
        for _ in range(18):
            asks = f"(do (ask) {asks})"
        self.told("program (add (ask) (ask))", "ok", "inputs" + " 7" * 20, "ok", "run rows", "value 14 deeds 3 calls 0 log",
                  "inputs" + " 8" * 21, "no line", "run rows", "value 14 deeds 3 calls 0 log",
                  "inputs" + " 1" * 19 + " 55", "ok", f"program (do (ask) {asks})", "ok", "run rows", "value 55 deeds 20 calls 0 log")

    def test_figures_of_inputs(self):
        self.told("program (make t (ask) (ask))", "ok", "inputs " + "9" * 30 + " -" + "9" * 30, "ok",
                  "run rows", "value [t " + "9" * 30 + " -" + "9" * 30 + "] deeds 3 calls 0 log")
        self.no_line("inputs " + "9" * 31, "inputs -" + "9" * 31, "inputs 1 " + "1" * 31)
        self.no_line("inputs 01", "inputs -0", "inputs 00", "inputs -01", "inputs +1", "inputs x", "inputs 1.0", "inputs 1e3",
                     "inputs 1_0", "inputs --1", "inputs -", "inputs 1-", "inputs none", "inputs \u0661", "inputs \u00b2", "inputs 1,2",
                     "inputs [1]", "inputs s1")
        self.told("inputs 0", "ok", "inputs -1 0 10", "ok")

    def test_bound(self):
        self.told("program (do (tell 1) (tell 2))", "ok", "bound 1", "ok", "run rows", "dry deeds 1 calls 0 log 1",
                  "bound 0", "ok", "run rows", "dry deeds 0 calls 0 log", "bound 2000", "ok",
                  "run rows", "value 2 deeds 2 calls 0 log 1 2", "bound 2001", "no line", "bound -1", "no line")
        self.told("program (let f 0 (do (set f (fn () (call f))) (call f)))", "ok", "run rows", "dry deeds 2000 calls 0 log")
        self.assertEqual(self.desk.answer("bound 1000"), "ok")
        self.told("run source", "dry deeds 1000 calls 0 log")

    def test_the_first_bound(self):
        self.told("program (let f 0 (do (set f (fn () (call f))) (call f)))", "ok", "run rows", "dry deeds 1000 calls 0 log")

    def test_room(self):
        self.told("program (make t 1 (make u))", "ok", "run rows", "value [t 1 [u]] deeds 2 calls 0 log",
                  "room 3", "ok", "run rows", "full 0 deeds 2 calls 0 log", "run closed", "full 0 deeds 2 calls 0 log",
                  "run boxed", "value [t 1 [u]] deeds 2 calls 0 log", "full rows", "0 3 1", "full closed", "0 3 1",
                  "room 4", "ok", "run rows", "value [t 1 [u]] deeds 2 calls 0 log", "full rows", "none", "full closed", "none",
                  "room 0", "ok", "run rows", "full 10 deeds 1 calls 0 log", "full closed", "10 1 0",
                  "room none", "ok", "full rows", "none", "full closed", "none", "run rows", "value [t 1 [u]] deeds 2 calls 0 log",
                  "room 400", "ok", "room 401", "no line", "room -1", "no line")

    def test_every(self):
        self.told("program (make t 1 (make u))", "ok", "room 3", "ok", "every 1", "ok", "full rows", "0 3 1", "every 50", "ok",
                  "full rows", "0 3 1", "every 0", "ok", "full rows", "0 3 1", "every 51", "no line", "every -1", "no line")

    def test_how_often_storage_is_moved(self):
        self.told("program (do (make t 1) (do (make t 2) (make t 3)))", "ok")
        for line in ("run rows", "deeds rows", "full rows"):
            self.assertEqual(told_and_moves(Desk().answer, line)[1], [])
            for every, many in ((0, 0), (1, 3), (2, 1), (3, 1), (4, 0)):
                self.told(f"every {every}", "ok")
                self.assertEqual(len(told_and_moves(self.desk.answer, line)[1]), many)
        desk = Desk()
        desk.answer("program (make t 1)")
        self.assertEqual(told_and_moves(desk.answer, "run rows")[1], [])

    def test_numbers_of_settings(self):
        for head in ("bound", "room", "every"):
            self.told(f"{head} 0", "ok", f"{head} 50", "ok")
            self.no_line(head, f"{head} ", f"{head}  5", f"{head} 5 ", f" {head} 5", f"{head} 5 5", f"{head} 05", f"{head} 00",
                         f"{head} -0", f"{head} +5", f"{head} five", f"{head} {'1' * 31}", f"{head} {'1' * 5000}", f"{head}5",
                         f"{head} 5.0", f"{head} \u0665", f"{head}\t5", f"{head} None", f"{head.upper()} 5", f"{head} 5\n")
        self.no_line("bound none", "every none", "room none ", "room  none", "room none none", "room NONE", "room no")

    def test_run_deeds_and_full(self):
        self.told("program (add 1 (call (fn (x) (tell x)) 4))", "ok")
        for word in WORDS:
            self.told(f"run {word}", "value 5 deeds 4 calls 1 log 4", f"deeds {word}", "13 7 21 0")
        self.told("full closed", "none", "full rows", "none", "room 0", "ok", "full closed", "13 1 0", "full rows", "13 1 0")
        self.told("program 5", "ok")
        for word in WORDS:
            self.told(f"run {word}", "value 5 deeds 0 calls 0 log", f"deeds {word}", "none")

    def test_without_a_program(self):
        for word in WORDS:
            self.told(f"run {word}", "no program", f"deeds {word}", "no program")
        self.told("full closed", "no program", "full rows", "no program")
        for word in ("source", "named", "boxed"):
            self.no_line(f"full {word}")
        self.no_line("run all", "deeds all", "full all", "run", "deeds", "full", "run ", "run source rows", "full  rows",
                     "full rows closed")
        self.told("inputs 5", "ok", "bound 5", "ok", "room 5", "ok", "every 5", "ok", "run rows", "no program",
                  "program (ask)", "ok", "run rows", "value 5 deeds 1 calls 0 log")

    def test_other_lines(self):
        self.desk.answer("program 5")
        self.no_line("", " ", "  ", "source", "run", "deeds", "full", "run ", "deeds ", "full ", "run  source", " run source",
                     "run source ", "run source source", "run Source", "Run source", "RUN SOURCE", "run sources", "runs source",
                     "run none", "full source", "full named", "full boxed", "full none", "full rows ", "full closed rows",
                     "deeds source,", "inputs ", "inputs  1", "inputs 1 ", "inputs 1  2", " inputs 1", "input 1", "ok", "none", "help",
                     "no line", "tell source", "run\tsource", "run source\n", "\nrun source", "run\nsource", "every", "room", "bound",
                     "run 5", "full 5", "bound source")
        self.told("run source", "value 5 deeds 0 calls 0 log")

    def test_what_is_told_stays(self):
        self.told("inputs 3 4", "ok", "room 4", "ok", "bound 9", "ok", "every 2", "ok", "program (make t (ask) (make u (ask)))", "ok",
                  "run source", "value [t 3 [u]] deeds 4 calls 0 log", "run rows", "full 0 deeds 4 calls 0 log",
                  "program (make t (ask))", "ok", "run rows", "value [t 3] deeds 2 calls 0 log",
                  "inputs x", "no line", "room 500", "no line", "bound 5000", "no line", "every 51", "no line", "program (", "bad text 1",
                  "run rows", "value [t 3] deeds 2 calls 0 log", "run rows", "value [t 3] deeds 2 calls 0 log",
                  "room 1", "ok", "full rows", "0 2 0", "room 2", "ok", "full rows", "none", "bound 1", "ok", "run rows",
                  "dry deeds 1 calls 0 log", "full rows", "none", "bound 9", "ok", "run rows", "value [t 3] deeds 2 calls 0 log")

    def test_side_by_side(self):
        other = Desk()
        self.told("program (ask)", "ok", "inputs 5", "ok", "room 7", "ok")
        self.assertEqual(other.answer("run rows"), "no program")
        self.assertEqual(other.answer("program (add 1 (ask))"), "ok")
        self.assertEqual(other.answer("run rows"), "value 1 deeds 2 calls 0 log")
        self.told("run rows", "value 5 deeds 1 calls 0 log")


class Answers(Case):
    def run_told(self, text, told):
        self.told("program " + text, "ok")
        for word in WORDS:
            self.told("run " + word, told)

    def test_values(self):
        self.run_told("0", "value 0 deeds 0 calls 0 log")
        self.run_told("-12", "value -12 deeds 0 calls 0 log")
        self.run_told("(fn (x) x)", "value fn@0 deeds 1 calls 0 log")
        self.run_told("(let f (fn (x) x) f)", "value fn@7 deeds 1 calls 0 log")
        self.run_told("(make pair)", "value [pair] deeds 1 calls 0 log")
        self.run_told("(make pair 3 (make pair 1 2) (fn () 1) -4)", "value [pair 3 [pair] fn@29 -4] deeds 3 calls 0 log")

    def test_numbers_of_forty_figures(self):
        text = "(let a (mul 999999999999 999999999999) (let b (mul a 99999999999) (mul b {})))"
        value = (10 ** 12 - 1) ** 2 * (10 ** 11 - 1) * 99999
        self.assertEqual(len(str(value)), 40)
        self.run_told(text.format("99999"), f"value {value} deeds 3 calls 0 log")
        self.run_told(text.format("-99999"), f"value -{value} deeds 3 calls 0 log")
        self.run_told("(tell " + text.format("-99999") + ")", f"value -{value} deeds 4 calls 0 log -{value}")

    def test_faults(self):
        self.run_told("(raise oh 5)", "fault oh 5 0 deeds 1 calls 0 log")
        self.run_told("(raise oh -5)", "fault oh -5 0 deeds 1 calls 0 log")
        self.run_told("(do (tell 3) (raise oh (make t 1 (make u 2))))", "fault oh [t 1 [u]] 13 deeds 4 calls 0 log 3")
        self.run_told("(raise oh (fn () 1))", "fault oh fn@10 0 deeds 2 calls 0 log")
        self.run_told("(add 1 (make t))", "fault kind 0 0 deeds 2 calls 0 log")

    def test_dry_deep_and_full(self):
        self.run_told("(let f 0 (do (set f (fn () (add 1 (call f)))) (call f)))", "deep 34 deeds 54 calls 50 log")
        self.told("bound 10", "ok")
        self.run_told("(let f 0 (do (set f (fn () (add 1 (call f)))) (call f)))", "dry deeds 10 calls 7 log")
        self.told("room 3", "ok", "run rows", "full 20 deeds 1 calls 0 log", "run closed", "full 20 deeds 1 calls 0 log")

    def test_logs(self):
        self.run_told("(do (tell 1) (do (tell -2) (tell 30)))", "value 30 deeds 3 calls 0 log 1 -2 30")

    def test_deeds(self):
        self.told("program (do (tell 1) (tell 2))", "ok")
        for word in WORDS:
            self.told("deeds " + word, "4 13")
        self.told("bound 1", "ok")
        for word in WORDS:
            self.told("deeds " + word, "4")
        self.told("bound 0", "ok")
        for word in WORDS:
            self.told("deeds " + word, "none")

    def test_full(self):
        self.told("program (let b (make t 1) (make u b b))", "ok", "room 4", "ok")
        for every in (0, 1, 2, 50):
            self.told(f"every {every}", "ok", "full closed", "18 3 2", "full rows", "18 3 2")
        self.told("bound 1", "ok", "full closed", "none", "full rows", "none")


class Many(Case):
    def end(self, end):
        def value(shown):
            if isinstance(shown, int):
                return str(shown)
            if shown[0] == "fn":
                return "fn@" + str(shown[1])
            return "[" + " ".join([shown[1]] + [value(field) for fields in shown[2:] for field in fields]) + "]"

        if end[0] == "value":
            return "value " + value(end[1])
        if end[0] == "fault":
            return f"fault {end[1]} {value(end[2])} {end[3]}"
        return " ".join([str(thing) for thing in end])

    def test_as_the_chain_tells(self):
        self.desk.answer("inputs 6 7")
        for text in TEXTS_TO_RUN + STORING:
            chain = Chain(text)
            self.told("program " + text, "ok")
            for most, room, every in ((1000, 6, 1), (12, 3, 0), (300, 40, 2)):
                self.told(f"bound {most}", "ok", f"room {room}", "ok", f"every {every}", "ok")
                for word in WORDS:
                    end, log, deeds, deepest = chain.run(word, [6, 7], most, room, every)
                    numbers = "".join([f" {number}" for number in log])
                    self.told(f"run {word}", f"{self.end(end)} deeds {len(deeds)} calls {deepest} log{numbers}",
                              f"deeds {word}", " ".join([str(place) for place in deeds]) or "none")
                for word in ("closed", "rows"):
                    told = chain.full(word, [6, 7], most, room, every)
                    self.told(f"full {word}", "none" if told is None else "{} {} {}".format(*told))


if __name__ == "__main__":
    unittest.main()

import copy
import random
import unittest

from rowtexts import Bad, read_model
from samples import many_programs
from shapes import n
from spacewright.boxing import boxed
from spacewright.closing import closed
from spacewright.errors import NoRow, SpaceError
from spacewright.naming import named
from spacewright.reading import read_program
from spacewright.rowing import rows_of
from spacewright.rows import read_rows, rows_text


def s(number):
    return ("slot", number)


# One row of each kind, and its line, with tuples of none, one and several things.
EACH_ROW = [
    (("move", 0, s(1)), "move s0 s1"),
    (("move", 1, n(-7)), "move s1 -7"),
    (("math", 2, "add", s(0), n(10 ** 12 - 1), 17), "math s2 add s0 999999999999 17"),
    (("math", 2, "same", n(1 - 10 ** 12), n(0), 599), "math s2 same -999999999999 0 599"),
    (("tell", 3, s(2), 0), "tell s3 s2 0"),
    (("ask", 0, 4), "ask s0 4"),
    (("load", 0, 11), "load s0 s11"),
    (("store", 0, 11, n(5), 30), "store s0 s11 5 30"),
    (("make", 1, "pair", (s(0), n(-3)), 17, (0, 2)), "make s1 pair [s0 -3] 17 [s0 s2]"),
    (("make", 1, "code", (), 17, ()), "make s1 code [] 17 []"),
    (("make", 1, "abcdefgh", (s(0), s(0), n(1), s(11)), 17, (11,)), "make s1 abcdefgh [s0 s0 1 s11] 17 [s11]"),
    (("close", 1, 0, (), 17, (0,)), "close s1 0 [] 17 [s0]"),
    (("close", 1, 1, (s(3), n(4)), 17, ()), "close s1 1 [s3 4] 17 []"),
    (("close", 1, 2, (s(3),) * 5, 17, ()), "close s1 2 [s3 s3 s3 s3 s3] 17 []"),
    (("box", 1, n(-1), 17, ()), "box s1 -1 17 []"),
    (("box", 1, s(1), 17, (0, 1, 2, 10, 11)), "box s1 s1 17 [s0 s1 s2 s10 s11]"),
    (("call", 0, s(1), (), 8, (2,)), "call s0 s1 [] 8 [s2]"),
    (("call", 0, n(1), (n(0), s(2)), 8, ()), "call s0 1 [0 s2] 8 []"),
    (("last", s(1), (s(2),), 8), "last s1 [s2] 8"),
    (("last", n(-1), (), 8), "last -1 [] 8"),
    (("test", s(1), 0, 8), "test s1 0 8"),
    (("test", n(0), 5, 8), "test 0 5 8"),
    (("match", s(2), "pair", (), 9, 30), "match s2 pair [] 9 30"),
    (("match", s(2), "s", (3,), 9, 30), "match s2 s [s3] 9 30"),
    (("match", n(2), "t", (3, 0, 11, 1), 9, 30), "match 2 t [s3 s0 s11 s1] 9 30"),
    (("jump", 0), "jump 0"),
    (("guard", "oh", 2, 3), "guard oh s2 3"),
    (("unguard",), "unguard"),
    (("raise", "unguard", n(-12), 40), "raise unguard -12 40"),
    (("raise", "w", s(0), 40), "raise w s0 40"),
    (("back", n(-4)), "back -4"),
    (("back", s(11)), "back s11"),
]
CODES = ((0, 0, 0, 12, 0), (5, 2, 2, 6, len(EACH_ROW)), (4, 0, 5, 600, len(EACH_ROW) + 2))
CODE_LINES = ["code 0 0 0 12 0", f"code 5 2 2 6 {len(EACH_ROW)}", f"code 4 0 5 600 {len(EACH_ROW) + 2}"]
MORE_ROWS = [
    (("jump", len(EACH_ROW)), f"jump {len(EACH_ROW)}"), (("back", s(5)), "back s5"), (("back", s(599)), "back s599"),
]
EACH = (CODES, tuple([row for row, line in EACH_ROW + MORE_ROWS]))
EACH_LINES = CODE_LINES + [line for row, line in EACH_ROW + MORE_ROWS]


def rows_of_text(text):
    return rows_of(closed(boxed(named(read_program(text)))))


class Writing(unittest.TestCase):
    def test_each_kind_of_row_and_codes(self):
        self.assertEqual(rows_text(EACH).split("\n"), EACH_LINES)

    def test_each_row_by_itself(self):
        for row, line in EACH_ROW:
            self.assertEqual(rows_text((((0, 0, 0, 12, 0),), (row,))), "code 0 0 0 12 0\n" + line)

    def test_of_a_program(self):
        self.assertEqual(rows_text(rows_of_text("5")), "code 0 0 0 0 0\nback 5")
        self.assertEqual(rows_text(rows_of_text("(let x 1 (fn (y) (set x y)))")),
                         "code 0 0 0 1 0\ncode 9 1 1 2 3\nbox s0 1 0 []\nclose s0 1 [s0] 9 [s0]\nback s0\n"
                         "store s0 s1 s0 17\nback s0")

    def test_a_text_longer_than_those_that_are_read(self):
        rows = (("make", 0, "abcdefgh", (n(-1),) * 4, 599, (0,)),) * 3000 + (("back", n(1)),)
        text = rows_text((((0, 0, 0, 1, 0),), rows))
        self.assertGreater(len(text), 60000)
        self.assertEqual(text, "\n".join(["code 0 0 0 1 0"] + ["make s0 abcdefgh [-1 -1 -1 -1] 599 [s0]"] * 3000 + ["back 1"]))

    def test_nothing_is_changed_and_the_answer_is_the_same(self):
        kept = copy.deepcopy(EACH)
        self.assertEqual(rows_text(EACH), rows_text(EACH))
        self.assertEqual(EACH, kept)


class Case(unittest.TestCase):
    def refused(self, text, row):
        with self.assertRaises(NoRow) as caught:
            read_rows(text)
        self.assertEqual(caught.exception.row, row, text if len(str(text)) < 500 else "")
        self.assertIsInstance(caught.exception, SpaceError)
        with self.assertRaises(Bad) as caught:
            read_model(text)
        self.assertEqual(caught.exception.args, (row,))

    def reads(self, text, program=None):
        told = read_rows(text)
        self.assertEqual(told, read_model(text))
        self.assertEqual(rows_text(told), text)
        if program is not None:
            self.assertEqual(told, program)


class Reading(Case):
    def test_what_is_written_is_read_back(self):
        self.reads("\n".join(EACH_LINES), EACH)
        for program in many_programs(141):
            rows = rows_of(closed(boxed(named(program))))
            self.reads(rows_text(rows), rows)

    def test_what_is_told_is_plain(self):
        codes, rows = read_rows("\n".join(EACH_LINES))
        things = [codes, rows]
        for thing in things:
            self.assertIn(type(thing), (tuple, str, int))
            if type(thing) is tuple:
                things.extend(thing)

    def test_the_same_again(self):
        text = "\n".join(EACH_LINES)
        self.assertEqual(read_rows(text), read_rows(text))

    def test_no_text(self):
        for thing in (None, 5, True, 1.5, b"code 0 0 0 0 0\nback 1", ["code 0 0 0 0 0", "back 1"], ("back 1",), {}, object(),
                      (((0, 0, 0, 0, 0),), (("back", ("number", 1)),))):
            self.refused(thing, 0)

    def test_a_text_of_a_class_of_its_own(self):
        class Text(str):
            def split(self, *things):
                return ["code 0 0 0 0 0", "unguard"]

            def __len__(self):
                return 10 ** 6

        self.assertEqual(read_rows(Text("code 0 0 0 0 0\nback 1")), (((0, 0, 0, 0, 0),), (("back", n(1)),)))

    def test_an_empty_text_and_a_first_line_that_is_no_code(self):
        for text in ("", "\n", "\n\n", " ", "back 1", "\ncode 0 0 0 0 0\nback 1", "back 1\ncode 0 0 0 0 0",
                     " code 0 0 0 0 0\nback 1", "Code 0 0 0 0 0\nback 1", "codes 0 0 0 0 0\nback 1", "unguard\nback 1"):
            self.refused(text, 0)

    def test_the_most_signs(self):
        rows = ["jump 0"] * 8567
        text = "\n".join(["code 0 0 0 12 0"] + rows + ["back s11"])
        self.assertEqual(len(text), 15 + 7 * 8567 + 9)
        text = text.replace("jump 0", "jump 8567", (60000 - len(text)) // 3)
        fill = 60000 - len(text)
        self.assertIn(fill, (0, 1, 2))
        text = text.replace("jump 0\n", "jump " + "1" + "0" * fill + "\n", 1)
        self.assertEqual(len(text), 60000)
        self.reads(text)
        longer = text[:-3] + "-11"
        self.assertEqual(len(longer), 60000)
        self.reads(longer)
        self.refused(text[:-3] + "-111", 0)
        self.refused(text + " ", 0)
        self.refused(text + "\n", 0)

    def test_no_rows(self):
        self.refused("code 0 0 0 0 0", 0)
        self.refused("code 0 0 0 0 0\ncode 5 0 0 0 1", 0)

    def test_an_empty_line_behind_the_last_line_feed(self):
        self.refused("code 0 0 0 0 0\n", 1)
        self.refused("code 0 0 0 0 0\nback 1\n", 2)
        self.refused("code 0 0 0 0 0\nunguard\nback 1\n", 3)
        self.refused("code 0 0 0 0 0\nback 1\n\n", 2)
        self.refused("code 0 0 0 0 0\ncode 1 0 0 0 1\nback 1\nback 1\n", 4)

    def test_other_line_ends(self):
        self.refused("code 0 0 0 0 0\r\nback 1", 0)
        self.refused("code 0 0 0 0 0\nback 1\r", 1)
        self.refused("code 0 0 0 0 0\rback 1", 0)
        self.refused("code 0 0 0 0 0\nunguard\x0b\nback 1", 1)


class Codes(Case):
    def second(self, line, good, rows=("back 1", "back 1")):
        """The line is the one behind that of code 0, with these rows behind it."""
        text = "\n".join(["code 0 0 0 0 0", line] + list(rows))
        if good:
            self.reads(text)
        else:
            self.refused(text, 1)

    def test_code_nought(self):
        self.reads("code 0 0 0 600 0\nback 1", (((0, 0, 0, 600, 0),), (("back", n(1)),)))
        for line in ("code 1 0 0 5 0", "code 0 1 0 5 0", "code 0 0 1 5 0", "code 0 0 0 601 0", "code 0 0 0 5 1",
                     "code 0 0 0 -1 0"):
            self.refused(line + "\nunguard\nback 1", 0)

    def test_the_place(self):
        for place, good in (("0", True), ("599", True), ("600", False), ("-1", False), ("-0", False), ("00", False),
                            ("01", False), ("", False), ("x", False), ("s1", False), ("+1", False), ("1_0", False),
                            ("9" * 5000, False), ("\u0661", False), ("\u00b2", False), ("1.0", False)):
            self.second(f"code {place} 0 0 0 1", good)

    def test_params_and_kept(self):
        for many, good in (("0", True), ("300", True), ("301", False), ("-1", False), ("-0", False), ("03", False)):
            self.second(f"code 5 {many} 0 600 1", good)
            self.second(f"code 5 0 {many} 600 1", good)
            self.second(f"code 5 {many} 300 600 1", good)

    def test_slots(self):
        for slots, good in ((5, True), (6, True), (4, False), (0, False), (600, True), (601, False)):
            self.second(f"code 5 2 3 {slots} 1", good)
        self.second("code 5 300 300 600 1", True)
        self.second("code 5 300 300 599 1", False)
        self.second("code 5 0 0 00 1", False)

    def test_entries(self):
        for entry, good in (("1", True), ("0", False), ("2", False), ("3", False), ("-1", False), ("01", False)):
            self.second(f"code 5 0 0 0 {entry}", good)
        rows = ["unguard", "back 1", "unguard", "back 1", "back 1"]
        self.reads("\n".join(["code 0 0 0 0 0", "code 9 0 0 0 2", "code 1 0 0 0 4"] + rows))
        for third in (0, 1, 2, 5, 6):
            self.refused("\n".join(["code 0 0 0 0 0", "code 9 0 0 0 2", f"code 1 0 0 0 {third}"] + rows), 2)
        # All lines behind those of codes are rows, good or not.
        self.refused("code 0 0 0 0 0\ncode 1 0 0 0 2\nback 1\nback 1\nno row", 4)
        self.refused("code 0 0 0 0 0\ncode 1 0 0 0 3\nback 1\nback 1\nno row", 1)

    def test_how_many_things(self):
        for line in ("code", "code ", "code 5", "code 5 0 0 0", "code 5 0 0 0 1 ", "code 5 0 0 0 1 1", "code  5 0 0 0 1",
                     "code 5 0 0  0 1", "code 5 0 0 0 1 []", "code 5 [0 0] 0 1"):
            self.second(line, False)

    def test_a_code_behind_a_row(self):
        self.refused("code 0 0 0 0 0\nback 1\ncode 5 0 0 0 1\nback 1", 2)
        self.refused("code 0 0 0 0 0\nunguard\ncode 5 0 0 0 1\nback 1", 2)
        self.refused("code 0 0 0 0 0\nunguard\ncode\nback 1", 2)
        self.refused("code 0 0 0 0 0\ncodes 1\nback 1", 1)
        self.refused("code 0 0 0 0 0\nback 1\ncode", 2)


class Rows(Case):
    def row(self, line, good):
        """The line is that of row 1, of a code with twelve slots, the rows 0 to 3 being its own."""
        text = "\n".join(["code 0 0 0 12 0", "code 5 0 2 2 4", "code 4 0 5 5 5", "unguard", line, "unguard", "back 1", "back 2",
                          "back 3"])
        if good:
            self.reads(text)
        else:
            self.refused(text, 4)

    def test_each_kind(self):
        for row, line in EACH_ROW:
            line = line.replace(" 5 8", " 3 8").replace(" 9 30", " 3 30")
            self.row(line, True)
            for other in (line + " ", " " + line, line + " 5", line + " s1", line + " []", line.rpartition(" ")[0],
                          line + "\t", line.replace(" ", "  ", 1) + (" " if " " not in line else ""), line.upper(),
                          line.partition(" ")[2], "x" + line, line[1:]):
                self.row(other, False)

    def test_words_that_no_row_has(self):
        for line in ("", " ", "code", "code 0 0 0 0 0", "func s0 1", "start s0 1 5", "if s0 1 5", "try", "add s0 1 2 5", "number",
                     "s0", "5", "[]", "unguard unguard", "get", "keys", "Move s0 1"):
            self.row(line, False)

    def test_slots(self):
        for slot, good in (("s0", True), ("s11", True), ("s12", False), ("s13", False), ("s00", False), ("s01", False),
                           ("s-1", False), ("s-0", False), ("s", False), ("S1", False), ("1", False), ("ss1", False),
                           ("s1.", False), ("s+1", False), ("s 1", False), ("s" + "1" * 5000, False), ("s\u0661", False),
                           ("[s1]", False), ("-1", False), ("name", False)):
            for line in ("move {} 5", "math {} add 1 2 5", "tell {} 1 5", "ask {} 5", "load {} s0", "load s0 {}", "store {} s0 1 5",
                         "store s0 {} 1 5", "make {} t [] 5 []", "close {} 0 [] 5 []", "box {} 1 5 []", "call {} 1 [] 5 []",
                         "guard t {} 0"):
                self.row(line.format(slot), good)

    def test_slots_in_brackets(self):
        for slot, good in (("s0", True), ("s11", True), ("s12", False), ("s01", False), ("5", False), ("", True), (" ", False),
                           ("s1 s2", True), ("s1  s2", False), (" s1", False), ("s1 ", False), ("s1,s2", False),
                           ("s1 s1", False), ("s1 s2 s2", False), ("[s1]", False), ("s1] [s2", False), ("s1\ts2", False)):
            for line in ("make s0 t [] 5 [{}]", "close s0 0 [] 5 [{}]", "box s0 1 5 [{}]", "call s0 1 [] 5 [{}]",
                         "match s0 t [{}] 0 5"):
                self.row(line.format(slot), good)

    def test_live_rises(self):
        for live, good in (("s2 s1", False), ("s0 s1 s2 s3 s4 s5 s6 s7 s8 s9 s10 s11", True), ("s0 s2 s1", False),
                           ("s10 s9", False), ("s9 s10", True), ("s1 s1", False)):
            for line in ("make s0 t [] 5 [{}]", "close s0 0 [] 5 [{}]", "box s0 1 5 [{}]", "call s0 1 [] 5 [{}]"):
                self.row(line.format(live), good)

    def test_the_slots_of_a_match(self):
        for slots, good in (("s2 s1", True), ("s9 s10 s3 s0", True), ("s9 s10 s3 s0 s1", False), ("s1 s2 s1", False),
                            ("s0 s1 s2 s3", True), ("s0 s1 s2 s3 s4", False)):
            self.row(f"match s0 t [{slots}] 0 5", good)

    def test_operands(self):
        for operand, good in (("s0", True), ("s11", True), ("s12", False), ("0", True), ("-1", True), ("-0", False),
                              ("00", False), ("01", False), ("-01", False), ("999999999999", True), ("-999999999999", True),
                              ("1000000000000", False), ("-1000000000000", False), ("+1", False), ("--1", False),
                              ("-", False), ("1_000", False), ("1e3", False), ("9" * 5000, False), ("\u0661", False),
                              ("\u00b2", False), ("x", False), ("[1]", False), ("-s1", False), ("", False)):
            for line in ("move s0 {}", "math s0 add {} 2 5", "math s0 add 2 {} 5", "tell s0 {} 5", "store s0 s0 {} 5",
                         "box s0 {} 5 []", "call s0 {} [] 5 []", "last {} [] 5", "test {} 0 5", "match {} t [] 0 5",
                         "raise t {} 5", "back {}"):
                self.row(line.format(operand), good)
            if operand != "":
                for line in ("make s0 t [{}] 5 []", "call s0 1 [{}] 5 []", "last 1 [{}] 5", "make s0 t [1 {} s1] 5 []"):
                    self.row(line.format(operand), good)
                self.row(f"close s0 1 [{operand} 1] 5 []", good)

    def test_how_many_operands(self):
        for many in range(7):
            operands = " ".join(["s1"] * many)
            for line in ("make s0 t [{}] 5 []", "call s0 1 [{}] 5 []", "last 1 [{}] 5"):
                self.row(line.format(operands), many <= 4)
            for number, kept in ((0, 0), (1, 2), (2, 5)):
                self.row(f"close s0 {number} [{operands}] 5 []", many == kept)

    def test_brackets(self):
        for brackets in ("", "[", "]", "][", "[[]]", "[] []", "[ ]", "[ 1]", "[1 ]", "[1  2]", "1", "1]", "[1", "(1)", "[1]]", "[[1]",
                         "[1,2]", "[]x", "x[]", "[1]2"):
            for line in ("make s0 t {} 5 []", "call s0 1 {} 5 []", "last 1 {} 5", "close s0 0 {} 5 []"):
                self.row(line.format(brackets), False)
        for brackets in ("", "[", "]", "[ ]", "[s1", "s1]", "[s1 ]", "[ s1]", "[] []", "s1"):
            for line in ("make s0 t [] 5 {}", "match s0 t {} 0 5"):
                self.row(line.format(brackets), False)

    def test_codes_that_a_close_names(self):
        for number, good in (("0", True), ("3", False), ("-1", False), ("00", False), ("-0", False), ("s0", False), ("", False)):
            self.row(f"close s0 {number} [] 5 []", good)
        self.row("close s0 1 [1 2] 5 []", True)
        self.row("close s0 01 [1 2] 5 []", False)
        self.row("close s0 -2 [1 2] 5 []", False)

    def test_places(self):
        for place, good in (("0", True), ("599", True), ("600", False), ("-1", False), ("-0", False), ("00", False),
                            ("05", False), ("s5", False), ("9" * 5000, False), ("", False), ("\u0661", False)):
            for line in ("math s0 add 1 2 {}", "tell s0 1 {}", "ask s0 {}", "store s0 s0 1 {}", "make s0 t [] {} []",
                         "close s0 0 [] {} []", "box s0 1 {} []", "call s0 1 [] {} []", "last 1 [] {}", "test 1 0 {}",
                         "match s0 t [] 0 {}", "raise t 1 {}"):
                self.row(line.format(place), good)

    def test_words(self):
        for word, good in (("a", True), ("abcdefgh", True), ("abcdefghi", False), ("A", False), ("a1", False), ("", False),
                           ("fn", True), ("code", True), ("a-b", False), ("[a]", False), ("\u00e9", False), ("s0", False)):
            for line in ("make s0 {} [] 5 []", "match s0 {} [] 0 5", "guard {} s0 0", "raise {} 1 5"):
                self.row(line.format(word), good)

    def test_ops(self):
        for op in ("add", "sub", "mul", "less", "same"):
            self.row(f"math s0 {op} 1 2 5", True)
        for op in ("div", "", "Add", "ad", "addd", "a", "5", "s0", "math"):
            self.row(f"math s0 {op} 1 2 5", False)

    def test_rows_of_the_same_code(self):
        for row, good in (("0", True), ("1", True), ("3", True), ("4", False), ("5", False), ("6", False), ("-1", False),
                          ("-0", False), ("00", False), ("01", False), ("s0", False), ("", False)):
            for line in ("test 1 {} 5", "match s0 t [] {} 5", "jump {}", "guard t s0 {}"):
                self.row(line.format(row), good)
        codes = ["code 0 0 0 0 0", "code 5 0 0 0 1", "code 5 0 0 0 3"]
        for row, good in ((0, False), (1, True), (2, True), (3, False), (4, False)):
            text = "\n".join(codes + ["back 1", f"jump {row}", "back 1", "jump 4", "back 1"])
            if good:
                self.reads(text)
            else:
                self.refused(text, 4)

    def test_slots_are_those_of_the_row_s_own_code(self):
        text = "code 0 0 0 1 0\ncode 1 0 0 3 1\ncode 2 0 0 2 2\nback {}\nback {}\nback {}"
        self.reads(text.format("s0", "s2", "s1"))
        self.refused(text.format("s1", "s2", "s1"), 3)
        self.refused(text.format("s0", "s3", "s1"), 4)
        self.refused(text.format("s0", "s2", "s2"), 5)
        self.refused("code 0 0 0 0 0\nback s0", 1)

    def test_the_last_row_of_each_code_is_a_back_row(self):
        codes = "code 0 0 0 1 0\ncode 1 0 0 3 2\n"
        self.reads(codes + "unguard\nback 1\nunguard\nback 1")
        self.reads(codes + "back 1\nback 1\nback 1\nback 1")
        for line in ("unguard", "jump 0", "last 1 [] 5", "raise w 1 5"):
            self.refused(codes + f"unguard\n{line}\nunguard\nback 1", 3)
            self.refused(codes + f"unguard\nback 1\nunguard\n{line.replace('0', '2')}", 5)
            self.refused(codes + f"unguard\n{line}\nunguard\n{line}", 3)

    def test_the_first_line_that_can_t_stand(self):
        self.refused("code 0 0 0 0 0\ncode 1 0 0 0 0\nno row\nback 1", 1)
        self.refused("code 0 0 0 0 0\ncode 1 0 0 0 1\nunguard\nno row", 2)
        self.refused("code 0 0 0 0 0\nunguard\nback s0\nno row", 2)
        self.refused("code 0 0 0 0 0\nunguard\njump 3\nno row", 2)
        self.refused("code 0 0 0 0 1\nno row", 0)
        self.refused("code 0 0 0 0 0\ncode 1 0 5 5 1\ncode 2\nclose s0 1 [] 5 []\nback 1", 2)

    def test_nothing_else_is_looked_at(self):
        self.reads("code 0 0 0 1 0\ncode 9 0 0 1 7\ncode 3 0 0 0 8\nunguard\nunguard\nguard w s0 0\nclose s0 0 [] 5 []\njump 4\n"
                   "back 1\nback s0\nback s0\nback 1")


class Many(unittest.TestCase):
    """Texts with faults by chance, read by another telling of the same point."""

    def told(self, reader, text):
        try:
            return reader(text)
        except NoRow as error:
            return error.row
        except Bad as error:
            return error.args[0]

    def test_texts_with_faults(self):
        chance = random.Random(151)
        texts = ["\n".join(EACH_LINES)]
        for program in many_programs(152)[::6]:
            texts.append(rows_text(rows_of(closed(boxed(named(program))))))
        rows, good = {}, 0
        for text in texts:
            for _ in range(40):
                wrong = self.with_faults(text, chance)
                told = self.told(read_rows, wrong)
                self.assertEqual(told, self.told(read_model, wrong), wrong)
                if isinstance(told, int):
                    rows[told] = True
                else:
                    self.assertEqual(rows_text(told), wrong)
                    good += 1
        self.assertGreater(len(rows), 20)
        self.assertGreater(good, 100)

    def with_faults(self, text, chance):
        for _ in range(chance.choice([1, 1, 1, 2, 3])):
            at = chance.randrange(len(text) + 1)
            sort = chance.randrange(6)
            if sort < 2:
                text = text[:at] + chance.choice("0123456789s -[]\na") + text[at + sort:]
            elif sort == 2:
                text = text[:at] + text[at + 1:]
            else:
                lines = text.split("\n")
                line = chance.randrange(len(lines))
                if sort == 3:
                    del lines[line]
                elif sort == 4:
                    lines.insert(chance.randrange(len(lines) + 1), lines[line])
                else:
                    words = lines[line].split(" ")
                    words[chance.randrange(len(words))] = chance.choice(["s0", "s1", "0", "1", "7", "[]", "[s0]", "add", "pair"])
                    lines[line] = " ".join(words)
                text = "\n".join(lines)
        return text


if __name__ == "__main__":
    unittest.main()

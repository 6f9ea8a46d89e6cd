import re
import unittest

from samples import HEADS, Chance, nested, one_of_each_kind, parts_of, wide, without_places
from spacewright.errors import BadText, NoName, NoPart
from spacewright.parts import is_program
from spacewright.reading import read_program, write_program

# A text for each form, with all names there.
TEXTS = [
    "42", "(ask)", "(fn () 1)", "(fn (x) x)", "(fn (x y zz q) (add x q))", "(call 1)", "(call 1 2 3)",
    "(call (fn (a b c d) a) 2 3 4 5)", "(let x 1 (set x (tell x)))", "(do 1 2)", "(if 1 2 3)",
    "(sub 1 2)", "(mul 1 -2)", "(less 0 2)", "(same 1 2)", "(make tag)", "(make fn (ask) 2 3 4)",
    "(match 1 tag () 2 3)", "(match (make pair 1 2) pair (a b) (add a b) 0)", "(raise word 1)",
    "(try (raise kind 1) kind x x)", "(tell (do (ask) (fn (x) (do x 1))))",
]
POOL = HEADS + [
    "(", ")", "x", "q", "abcdefgh", "abcdefghi", "0", "7", "-7", "00", "07", "-0", "-07", "-", "--1", "+1", "1a", "a1",
    "A", "x,", "123456789012", "1234567890123", "-123456789012", "-1234567890123", "012345678901", "1_0", "\t", "x\ty",
    "\n", "\u0661", "\u00e9", "\u00a0", "[", "]", "number", "math", "1.0", "~",
]

# What a form has behind its head word: E a part, X a name, T a tag or word, N brackets of names, A the parts that
# may follow, up to the closing bracket.
GRAMMAR = {
    "fn": "N E )", "call": "E A0", "let": "X E E )", "set": "X E )", "do": "E E )", "if": "E E E )",
    "add": "E E )", "sub": "E E )", "mul": "E E )", "less": "E E )", "same": "E E )", "make": "T A0",
    "match": "E T N E E )", "raise": "T E )", "try": "E T X E )", "tell": "E )", "ask": ")",
}


def is_word(word):
    return re.fullmatch("[a-z]{1,8}", word) is not None


def is_name(word):
    return is_word(word) and word not in GRAMMAR


def first_wrong(text):
    """The place that BadText is to tell, or None: the grammar as a stack of what must still come."""
    coming = ["E"]
    names = []
    for found in re.finditer("[()]|[^() ]+", text):
        word, place = found.group(), found.start()
        if not coming:
            return place
        wanted = coming.pop()
        if wanted[0] == "A":
            if word == ")":
                continue
            if wanted == "A4":
                return place
            coming.append("A" + str(int(wanted[1]) + 1))
            wanted = "E"
        if wanted == "E":
            if word == "(":
                if len([one for one in coming if one == ")" or one[0] == "A"]) == 20:
                    return place
                coming.append("H")
            elif not (is_name(word) or re.fullmatch("0|-?[1-9][0-9]{0,11}", word)):
                return place
        elif wanted == "H":
            if word not in GRAMMAR:
                return place
            coming.extend(reversed(GRAMMAR[word].split()))
        elif wanted == "N":
            if word != "(":
                return place
            names = []
            coming.append("M")
        elif wanted == "M":
            if word == ")":
                continue
            if not is_name(word) or word in names or len(names) == 4:
                return place
            names.append(word)
            coming.append("M")
        elif wanted == "X" and not is_name(word):
            return place
        elif wanted == "T" and not is_word(word):
            return place
        elif wanted == ")" and word != ")":
            return place
    return len(text) if coming else None


def words_of(text):
    return re.findall("[()]|[^() ]+", text)


class Case(unittest.TestCase):
    def bad_text(self, text, place):
        with self.assertRaises(BadText, msg=text) as caught:
            read_program(text)
        self.assertEqual(caught.exception.place, place, text)

    def no_name(self, text, place):
        with self.assertRaises(NoName, msg=text) as caught:
            read_program(text)
        self.assertEqual(caught.exception.place, place, text)

    def as_told(self, text):
        """BadText comes just where the grammar tells it."""
        place = first_wrong(text)
        if place is not None:
            self.bad_text(text, place)
            return
        try:
            self.assertTrue(is_program(read_program(text)))
        except NoName:
            pass


class Written(Case):
    def test_each_kind(self):
        texts = [
            "5", "(let x 1 x)", "(fn () 1)", "(fn (a b c d) d)", "(call 1)", "(call 1 1 1 1 1)", "(let x 1 (set x 1))",
            "(do 1 1)", "(if 1 1 1)", "(add 1 1)", "(sub 1 1)", "(mul 1 1)", "(less 1 1)", "(same 1 1)", "(make tag)",
            "(make tag 1 1 1 1)", "(match 1 tag () 1 1)", "(match 1 tag (a b c d) c 1)", "(raise word 1)",
            "(try 1 word x x)", "(tell 1)", "(ask)",
        ]
        self.assertEqual([write_program(program) for program in one_of_each_kind()], texts)

    def test_the_order_of_things(self):
        numbers = [("number", place, place) for place in range(8)]
        self.assertEqual(write_program(("if", 9, numbers[0], numbers[1], numbers[2])), "(if 0 1 2)")
        self.assertEqual(write_program(("match", 9, numbers[0], "t", ("b", "a"), numbers[1], numbers[2])),
                         "(match 0 t (b a) 1 2)")
        self.assertEqual(write_program(("try", 9, numbers[0], "w", "x", numbers[1])), "(try 0 w x 1)")
        self.assertEqual(write_program(("call", 9, numbers[0], tuple(numbers[1:5]))), "(call 0 1 2 3 4)")
        self.assertEqual(write_program(("math", 9, "sub", numbers[3], numbers[1])), "(sub 3 1)")

    def test_numbers(self):
        for number in (0, -1, 10, 10 ** 12 - 1, 1 - 10 ** 12):
            self.assertEqual(write_program(("number", 0, number)), str(number))

    def test_longer_than_a_text_that_is_read(self):
        text = write_program(wide(300))
        self.assertGreater(len(text), 600)
        self.assertEqual(text.count("1"), text.count("do") + 1)
        self.bad_text(text, 600)

    def test_what_is_no_program(self):
        for thing in (None, True, 5, "5", "(ask)", [], ["ask", 0], (), ("ask",), ("name", 0, "x"), nested(21),
                      wide(301), nested(3000), object(), {}, ("number", 0, True)):
            with self.assertRaises(NoPart):
                write_program(thing)


class Cut(Case):
    def test_places_are_those_of_first_words(self):
        self.assertEqual(read_program("(add 1 (fn (x) x))"),
                         ("math", 0, "add", ("number", 5, 1), ("fn", 7, ("x",), ("name", 15, "x"))))
        self.assertEqual(read_program("  (  make  tag -3(ask)  )"),
                         ("make", 2, "tag", (("number", 15, -3), ("ask", 17))))

    def test_blanks_anywhere(self):
        self.assertEqual(read_program("   (   do(ask)7   )    "), ("do", 3, ("ask", 9), ("number", 14, 7)))
        self.assertEqual(read_program("(fn(x y)x)"), ("fn", 0, ("x", "y"), ("name", 8, "x")))
        self.assertEqual(read_program("(match(ask)t()1(ask))"),
                         ("match", 0, ("ask", 6), "t", (), ("number", 14, 1), ("ask", 15)))
        self.assertEqual(read_program(" " * 599 + "1"), ("number", 599, 1))

    def test_nothing_else_parts_words(self):
        for sign in "\t\n\r\f\v\u00a0\u2003,;'\"[]{}.:%#-":
            self.bad_text("(do 1" + sign + "2 3)", 4)
            self.bad_text("(do 1" + sign + " 3)", 4)
            self.bad_text("(do 1 " + sign + " 3)", 6)
            self.bad_text("(do 1 2)" + sign, 8)

    def test_each_letter_and_figure_belongs_to_a_word(self):
        for name in ("abcdefgh", "ijklmnop", "qrstuvwx", "yz"):
            self.assertEqual(read_program("(fn (" + name + ") 1)"), ("fn", 0, (name,), ("number", len(name) + 7, 1)))
        self.assertEqual(read_program("1234567890"), ("number", 0, 1234567890))

    def test_words_go_on_over_what_is_no_bracket_and_no_blank(self):
        self.bad_text("1x", 0)
        self.bad_text("(tell1)", 1)
        self.bad_text("(do 1-2)", 4)
        self.bad_text("(let x1 2)", 5)


class Refused(Case):
    def test_what_is_no_text(self):
        for thing in (None, 1, True, b"1", ["1"], ("1",), {}, object(), 1.5, ("number", 0, 1), ["x"] * 601):
            self.bad_text(thing, 0)

    def test_texts_that_are_too_long(self):
        self.assertEqual(read_program("1" + " " * 599), ("number", 0, 1))
        self.bad_text("1" + " " * 600, 600)
        self.bad_text("?" + " " * 600, 600)
        self.bad_text("x" * 601, 600)
        self.bad_text("x" * 600, 0)
        self.bad_text(" " * 600, 600)
        self.bad_text("(" * 5000, 600)

    def test_texts_that_end_too_early(self):
        self.bad_text("", 0)
        self.bad_text("   ", 3)
        for text in TEXTS:
            words = words_of(text)
            for many in range(len(words)):
                begun = " ".join(words[:many])
                self.bad_text(begun, len(begun))
                self.bad_text(begun + "  ", len(begun) + 2)

    def test_each_word_at_each_place_of_each_form(self):
        for text in TEXTS:
            words = words_of(text)
            for at in range(len(words) + 1):
                for word in POOL:
                    for behind in (words[at + 1:], words[at:], [], [")"], ["?", "("]):
                        self.as_told(" ".join(words[:at] + [word] + behind))

    def test_by_hand(self):
        self.bad_text(")", 0)
        self.bad_text("()", 1)
        self.bad_text("(x)", 1)
        self.bad_text("(1)", 1)
        self.bad_text("((ask))", 1)
        self.bad_text("(math add 1 2)", 1)
        self.bad_text("(number 1)", 1)
        self.bad_text("(name x)", 1)
        self.bad_text("(do 1)", 5)
        self.bad_text("(do 1 2 3)", 8)
        self.bad_text("(do add 2)", 4)
        self.bad_text("(ask 1)", 5)
        self.bad_text("(call)", 5)
        self.bad_text("(make)", 5)
        self.bad_text("(make 1)", 6)
        self.bad_text("(make (ask))", 6)
        self.bad_text("(let add 1 2)", 5)
        self.bad_text("(let (x) 1 2)", 5)
        self.bad_text("(set 1 1)", 5)
        self.bad_text("(fn x 1)", 4)
        self.bad_text("(fn ((x)) 1)", 5)
        self.bad_text("(fn (1) 1)", 5)
        self.bad_text("(fn (if) 1)", 5)
        self.bad_text("(fn ())", 6)
        self.bad_text("(try 1 kind if 1)", 12)
        self.bad_text("(raise x)", 8)

    def test_numbers(self):
        for word in ("0", "7", "-1", "999999999999", "-999999999999", "100000000000"):
            self.assertEqual(read_program(word), ("number", 0, int(word)))
        for word in ("00", "01", "-0", "-", "-01", "--1", "+1", "1-", "1000000000000", "-1000000000000",
                     "012345678901", "1_000", "\u0663", "0x1", "1.0", "0" * 12):
            self.bad_text("(do 1 " + word + ")", 6)

    def test_names_in_brackets(self):
        self.bad_text("(fn (x x) 1)", 7)
        self.bad_text("(fn (x y z x) 1)", 11)
        self.bad_text("(fn (a b c d e) 1)", 13)
        self.bad_text("(fn (a b c d a) 1)", 13)
        self.bad_text("(match 1 t (a b a) 1 1)", 16)
        self.bad_text("(match 1 t (a b c d e) 1 1)", 20)
        self.assertEqual(write_program(read_program("(match 1 t (a b c d) 1 1)")), "(match 1 t (a b c d) 1 1)")

    def test_a_fifth_argument_or_field(self):
        self.bad_text("(call 9 1 2 3 4 5)", 16)
        self.bad_text("(call 9 1 2 3 4 (ask))", 16)
        self.bad_text("(call 9 1 2 3 4 ?", 16)
        self.bad_text("(make t 1 2 3 4 5)", 16)
        self.bad_text("(call 9 1 2 3 4", 15)

    def test_a_part_within_twenty_others(self):
        twenty = "(tell " * 20 + "1" + ")" * 20
        self.assertEqual(write_program(read_program(twenty)), twenty)
        self.bad_text("(tell " * 20 + "(ask)" + ")" * 20, 120)
        self.bad_text("(tell " * 20 + "(", 120)
        self.bad_text("(tell " * 19 + "(do 1 (ask))" + ")" * 19, 120)
        self.bad_text("(tell " * 20, 120)
        self.bad_text("(" * 600, 1)

    def test_only_those_that_are_open_count(self):
        text = "(do " * 19 + "(do 1 2)" + " (tell 1))" * 19
        self.assertEqual(write_program(read_program(text)), text)

    def test_brackets_of_names_do_not_count(self):
        text = "(tell " * 19 + "(fn (x y) x)" + ")" * 19
        self.assertEqual(write_program(read_program(text)), text)
        text = "(fn () " * 20 + "1" + ")" * 20
        self.assertEqual(write_program(read_program(text)), text)
        self.bad_text("(fn () " * 20 + "(ask)" + ")" * 20, 140)

    def test_words_behind_the_end(self):
        for text in TEXTS:
            for word in POOL:
                self.bad_text(text + "  " + word, len(text) + 2)
        self.bad_text("(ask))", 5)
        self.bad_text("(ask)(ask)", 5)


class NoNames(Case):
    def test_the_first_name_that_is_not_there(self):
        self.no_name("x", 0)
        self.no_name("  x", 2)
        self.no_name("(do x y)", 4)
        self.no_name("(let x x 1)", 7)
        self.no_name("(let x 1 (do x y))", 15)
        self.no_name("(do (fn (x) x) x)", 15)
        self.no_name("(match x t (x) x x)", 7)
        self.no_name("(match 1 t (x) x x)", 17)
        self.no_name("(try x w x x)", 5)
        self.no_name("(call (fn (x) x) x)", 17)
        self.no_name("(try 1 w x y)", 11)

    def test_of_a_set_its_own_word(self):
        self.no_name("(set x 1)", 5)
        self.no_name("( set   x 1)", 8)
        self.no_name("(set x y)", 5)
        self.no_name("(let y 1 (set y (set x z)))", 21)
        self.no_name("(let x (set x 1) x)", 12)

    def test_only_where_all_words_can_stand(self):
        self.bad_text("(do x 01)", 6)
        self.bad_text("(do x 1", 7)
        self.bad_text("x y", 2)
        self.bad_text("(set x 1) 1", 10)

    def test_tags_and_words_are_no_names(self):
        text = "(try (raise w (match (make t) t () 1 2)) w x x)"
        self.assertEqual(write_program(read_program(text)), text)

    def test_names_told_anew(self):
        for text in ("(let x 1 (let x x x))", "(fn (x) (fn (x) x))", "(let x 1 (do (fn (x) x) x))",
                     "(let x 1 (try x x x (set x x)))"):
            self.assertEqual(write_program(read_program(text)), text)


class ThereAndBack(Case):
    def test_written_and_read_again(self):
        chance = Chance(5)
        read = 0
        for _ in range(600):
            program = chance.program(3)
            text = write_program(program)
            if len(text) > 600:
                self.bad_text(text, 600)
                continue
            again = read_program(text)
            self.assertTrue(is_program(again))
            self.assertEqual(without_places(again), without_places(program))
            self.assertEqual(write_program(again), text)
            self.first_words_stand_there(again, text)
            read += 1
        self.assertGreater(read, 300)

    def first_words_stand_there(self, program, text):
        for part in parts_of(program):
            first = str(part[2]) if part[0] in ("number", "name") else "("
            self.assertTrue(text.startswith(first, part[1]))

    def test_read_and_written_again(self):
        chance = Chance(6)
        for _ in range(300):
            text = write_program(chance.program(3))
            words = words_of(text)
            spaced = ""
            for word in words:
                spaced += " " * chance.chance.randint(0, 2)
                if spaced and spaced[-1] not in " ()" and word not in "()":
                    spaced += " "
                spaced += word
            if len(spaced) <= 600:
                self.assertEqual(write_program(read_program(spaced)), text)
                self.first_words_stand_there(read_program(spaced), spaced)

    def test_every_text_of_the_forms(self):
        for text in TEXTS:
            self.assertEqual(write_program(read_program(text)), text)
            self.assertEqual(read_program(text), read_program(text))

    def test_what_is_told_is_plain(self):
        for text in TEXTS:
            for part in parts_of(read_program(text)):
                for thing in (part,) + part:
                    self.assertIn(type(thing), (tuple, str, int))


if __name__ == "__main__":
    unittest.main()

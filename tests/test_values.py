import enum
import unittest

from spacewright.values import Block, Function, is_number, math_of, shown_of

BIG = 10 ** 40


class RunFunction(Function):
    """As a runner's own functions stand under Function."""

    def __init__(self, place, scope):
        Function.__init__(self, place)
        self.scope = scope


class Numbers(unittest.TestCase):
    def test_whole_numbers(self):
        for thing in (0, 1, -1, 10 ** 12, -(10 ** 90), enum.IntEnum("Odd", "one").one):
            self.assertIs(is_number(thing), True)

    def test_any_other_thing(self):
        within = []
        within.append(within)
        others = [True, False, None, 1.0, float("nan"), 1j, "", "1", b"1", (), (1,), [], within, {}, {1}, object(),
                  int, len, Block("pair", (1,)), Function(3)]
        for thing in others:
            self.assertIs(is_number(thing), False)


class Shown(unittest.TestCase):
    def test_a_number_is_itself(self):
        for number in (0, -7, 10 ** 40):
            self.assertEqual(shown_of(number), number)

    def test_a_function(self):
        self.assertEqual(shown_of(Function(12)), ("fn", 12))
        self.assertEqual(shown_of(RunFunction(0, {})), ("fn", 0))

    def test_a_block(self):
        self.assertEqual(shown_of(Block("none", ())), ("block", "none", ()))
        inner = Block("pair", (1, 2))
        block = Block("fn", (3, inner, RunFunction(9, {}), Block("none", ())))
        self.assertEqual(shown_of(block), ("block", "fn", (3, ("block", "pair"), ("fn", 9), ("block", "none"))))

    def test_what_is_told_is_plain(self):
        class Row(tuple):
            pass

        shown = shown_of(Block("pair", Row((1, Block("one", Row((2,)))))))
        self.assertIs(type(shown), tuple)
        self.assertIs(type(shown[2]), tuple)
        self.assertIs(type(shown[2][1]), tuple)
        self.assertIs(type(shown_of(Function(1))), tuple)

    def test_deep_blocks(self):
        block = Block("end", ())
        for depth in range(3000):
            block = Block("pair", (depth, block))
        self.assertEqual(shown_of(block), ("block", "pair", (2999, ("block", "pair"))))

    def test_the_same_each_time_and_nothing_changed(self):
        fields = (1, Block("b", (2,)))
        block = Block("a", fields)
        self.assertEqual(shown_of(block), shown_of(block))
        self.assertEqual((block.tag, block.fields), ("a", fields))
        self.assertEqual(fields[1].fields, (2,))

    def test_the_fields_of_the_classes(self):
        block = Block("pair", (1, 2))
        self.assertEqual((block.tag, block.fields), ("pair", (1, 2)))
        self.assertIs(type(block.fields), tuple)
        self.assertEqual(Function(5).place, 5)


class Reckoning(unittest.TestCase):
    def told(self, op, one, other, answer):
        got = math_of(op, one, other)
        self.assertEqual(got, answer, (op, one, other))
        self.assertIs(type(got), tuple)
        self.assertIs(type(got[1]), int)

    def test_each_word(self):
        self.told("add", 2, 3, (None, 5))
        self.told("sub", 2, 3, (None, -1))
        self.told("sub", 3, 2, (None, 1))
        self.told("mul", -2, 3, (None, -6))
        self.told("less", 2, 3, (None, 1))
        self.told("less", 3, 3, (None, 0))
        self.told("less", 3, 2, (None, 0))
        self.told("same", 3, 3, (None, 1))
        self.told("same", 3, -3, (None, 0))
        self.told("add", 2, -2, (None, 0))

    def test_the_edges_of_big(self):
        self.told("add", BIG - 2, 1, (None, BIG - 1))
        self.told("add", BIG - 1, 1, ("big", 0))
        self.told("add", BIG, 1, ("big", 0))
        self.told("sub", 2 - BIG, 1, (None, 1 - BIG))
        self.told("sub", 1 - BIG, 1, ("big", 0))
        self.told("sub", -BIG, 1, ("big", 0))
        self.told("mul", 10 ** 20, 10 ** 20, ("big", 0))
        self.told("mul", 10 ** 20, -(10 ** 20), ("big", 0))
        self.told("mul", 10 ** 20, 10 ** 20 - 1, (None, BIG - 10 ** 20))
        self.told("mul", BIG - 1, 1, (None, BIG - 1))
        self.told("mul", BIG - 1, -1, (None, 1 - BIG))

    def test_only_the_answer_may_not_be_big(self):
        huge = 10 ** 900
        self.told("add", huge, 7 - huge, (None, 7))
        self.told("sub", huge, huge, (None, 0))
        self.told("mul", huge, 0, (None, 0))
        self.told("less", -huge, huge, (None, 1))
        self.told("less", huge, -huge, (None, 0))
        self.told("same", huge, huge, (None, 1))
        self.told("same", huge, huge + 1, (None, 0))
        self.told("mul", huge, huge, ("big", 0))

    def test_what_is_no_number(self):
        for op in ("add", "sub", "mul", "less", "same"):
            for other in (Block("pair", (1, 2)), Function(3), RunFunction(3, {})):
                self.told(op, other, 1, ("kind", 0))
                self.told(op, 1, other, ("kind", 0))
                self.told(op, other, other, ("kind", 0))
                self.told(op, 10 ** 50, other, ("kind", 0))


if __name__ == "__main__":
    unittest.main()

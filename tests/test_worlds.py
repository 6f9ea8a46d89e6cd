import unittest

from spacewright.errors import Ended
from spacewright.worlds import World


class Case(unittest.TestCase):
    def ends(self, end, told, *args):
        with self.assertRaises(Ended) as caught:
            told(*args)
        self.assertEqual(caught.exception.end, end)


class Deeds(Case):
    def test_noted_in_their_order(self):
        world = World([], 5)
        for place in (7, 0, 599, 7):
            self.assertIsNone(world.note(place))
        self.assertEqual(world.result(("dry",)), (("dry",), [], [7, 0, 599, 7], 0))

    def test_the_last_within_the_bound_and_the_first_beyond(self):
        for most in (0, 1, 2, 30, 2000):
            world = World([4], most)
            for place in range(most):
                self.assertIsNone(world.note(place))
            for _ in range(3):
                self.ends(("dry",), world.note, 17)
                self.assertEqual(world.result(("value", 1)), (("value", 1), [], list(range(most)), 0))
            self.assertEqual(world.take(), 4)
            self.assertIsNone(world.enter(3))
            self.assertEqual(world.calls, 1)

    def test_the_bound_left_out(self):
        world = World([])
        for place in range(1000):
            world.note(place)
        self.ends(("dry",), world.note, 1000)
        self.assertEqual(len(world.result(("dry",))[2]), 1000)


class InputsAndLog(Case):
    def test_inputs_in_their_order_and_nought_beyond(self):
        world = World([5, 0, -(10 ** 29)])
        self.assertEqual([world.take() for _ in range(6)], [5, 0, -(10 ** 29), 0, 0, 0])

    def test_no_inputs(self):
        self.assertEqual(World([]).take(), 0)

    def test_the_list_handed_in(self):
        inputs = [1, 2, 3]
        world = World(inputs, 9)
        world.take()
        self.assertEqual(inputs, [1, 2, 3])
        inputs.clear()
        self.assertEqual([world.take(), world.take(), world.take()], [2, 3, 0])
        inputs.append(8)
        self.assertEqual(world.take(), 0)

    def test_the_log(self):
        world = World([], 0)
        for number in (3, -4, 3):
            self.assertIsNone(world.say(number))
        self.assertEqual(world.result(("value", 0)), (("value", 0), [3, -4, 3], [], 0))


class Calls(Case):
    def test_entered_and_left(self):
        world = World([])
        self.assertEqual((world.calls, world.deepest), (0, 0))
        self.assertIsNone(world.enter(9))
        self.assertIsNone(world.enter(9))
        self.assertEqual((world.calls, world.deepest), (2, 2))
        self.assertIsNone(world.leave())
        self.assertEqual((world.calls, world.deepest), (1, 2))
        world.enter(5)
        self.assertEqual((world.calls, world.deepest), (2, 2))
        world.enter(5)
        self.assertEqual((world.calls, world.deepest), (3, 3))
        self.assertEqual(world.result(("dry",)), (("dry",), [], [], 3))

    def test_the_fiftieth_and_the_next(self):
        world = World([])
        for place in range(50):
            self.assertIsNone(world.enter(place))
        for _ in range(2):
            self.ends(("deep", 77), world.enter, 77)
            self.assertEqual((world.calls, world.deepest), (50, 50))
        world.leave()
        self.assertIsNone(world.enter(3))
        self.ends(("deep", 4), world.enter, 4)
        self.assertEqual(world.result(("deep", 4)), (("deep", 4), [], [], 50))

    def test_dropped_to_a_number(self):
        world = World([])
        for _ in range(7):
            world.enter(1)
        self.assertIsNone(world.drop_to(7))
        self.assertEqual((world.calls, world.deepest), (7, 7))
        self.assertIsNone(world.drop_to(2))
        self.assertEqual((world.calls, world.deepest), (2, 7))
        world.drop_to(0)
        self.assertEqual((world.calls, world.deepest), (0, 7))
        for _ in range(50):
            world.enter(1)
        self.ends(("deep", 1), world.enter, 1)

    def test_calls_are_no_deeds(self):
        world = World([], 0)
        world.enter(1)
        world.leave()
        self.assertEqual(world.result(("dry",)), (("dry",), [], [], 1))


class Told(Case):
    def test_new_lists_each_time(self):
        world = World([1])
        world.note(4)
        world.say(6)
        first = world.result(("dry",))
        self.assertIs(type(first), tuple)
        self.assertIs(type(first[1]), list)
        self.assertIs(type(first[2]), list)
        first[1].clear()
        first[2].append(99)
        self.assertEqual(world.result(("dry",)), (("dry",), [6], [4], 0))
        world.note(5)
        world.say(7)
        self.assertEqual(world.result(("dry",)), (("dry",), [6, 7], [4, 5], 0))
        self.assertEqual(first[1], [])

    def test_a_world_goes_on_when_it_was_told(self):
        world = World([], 1)
        world.result(("dry",))
        world.note(3)
        self.ends(("dry",), world.note, 3)

    def test_two_side_by_side(self):
        one, other = World([1, 2], 3), World([7], 1)
        self.assertEqual((one.take(), other.take(), one.take(), other.take()), (1, 7, 2, 0))
        one.note(1)
        other.note(2)
        self.ends(("dry",), other.note, 3)
        one.note(4)
        one.say(5)
        one.enter(6)
        self.assertEqual((other.calls, other.deepest), (0, 0))
        self.assertEqual(one.result(("dry",)), (("dry",), [5], [1, 4], 1))
        self.assertEqual(other.result(("dry",)), (("dry",), [], [2], 0))


if __name__ == "__main__":
    unittest.main()

import random
import unittest

from spacewright.heap import Heap


class Graph:
    """What a heap should hold, told once more: things are lists of a kind, a word and values, which are numbers or
    such lists themselves."""

    def __init__(self, case):
        self.case = case
        self.heap = Heap()
        # Tuples of a value of the heap and what it should be.
        self.known = []

    def lay(self, kind, word, pairs):
        value = self.heap.lay(kind, word, [pair[0] for pair in pairs])
        self.known.append((value, [kind, word, [pair[1] for pair in pairs]]))
        return self.known[-1]

    def put(self, pair, inside):
        self.case.assertIsNone(self.heap.put(pair[0], inside[0]))
        pair[1][2][0] = inside[1]

    def move(self, pairs):
        told = self.heap.move([pair[0] for pair in pairs])
        self.case.assertIs(type(told), list)
        self.case.assertEqual(len(told), len(pairs))
        self.known = [(value, pair[1]) for value, pair in zip(told, pairs)]
        self.case.assertEqual(self.heap.used(), self.check())

    def check(self):
        """How many cells the things have that are known, or held by such; each is at one place, which is its own."""
        places, met, waiting = {}, {}, list(self.known)
        for value, thing in waiting:  # grows while it is walked
            if isinstance(thing, int):
                self.case.assertEqual(value, thing)
                continue
            self.case.assertEqual((type(value), value[0], type(value[1])), (tuple, "at", int))
            if id(thing) in met:
                self.case.assertEqual(met[id(thing)], value)
                continue
            met[id(thing)] = value
            self.case.assertNotIn(value[1], places)
            places[value[1]] = thing
            kind, word, values = self.heap.seen(value)
            self.case.assertEqual((kind, word, len(values), type(values)), (thing[0], thing[1], len(thing[2]), list))
            waiting.extend(zip(values, thing[2]))
        cells = [cell for place, thing in places.items() for cell in range(place, place + 1 + len(thing[2]))]
        self.case.assertEqual(len(cells), len(set(cells)))
        self.case.assertTrue(not cells or max(cells) < self.heap.used())
        return len(cells)


class Laying(unittest.TestCase):
    def test_nothing_at_first(self):
        self.assertEqual(Heap().used(), 0)
        self.assertEqual(Heap().move([]), [])

    def test_one_behind_the_other(self):
        heap = Heap()
        self.assertEqual(heap.lay("block", "none", []), ("at", 0))
        self.assertEqual(heap.used(), 1)
        self.assertEqual(heap.lay("box", "", [5]), ("at", 1))
        self.assertEqual(heap.used(), 3)
        self.assertEqual(heap.lay("fn", 7, [1, ("at", 0), ("at", 1), -(10 ** 39)]), ("at", 3))
        self.assertEqual(heap.used(), 8)
        self.assertEqual(heap.lay("block", "x", []), ("at", 8))
        self.assertEqual(heap.used(), 9)
        self.assertEqual(heap.seen(("at", 0)), ("block", "none", []))
        self.assertEqual(heap.seen(("at", 1)), ("box", "", [5]))
        self.assertEqual(heap.seen(("at", 3)), ("fn", 7, [1, ("at", 0), ("at", 1), -(10 ** 39)]))
        self.assertEqual(heap.seen(("at", 8)), ("block", "x", []))

    def test_as_many_values_as_one_likes(self):
        heap = Heap()
        heap.lay("fn", 1, list(range(1000)))
        self.assertEqual(heap.lay("box", "", [3]), ("at", 1001))
        self.assertEqual(heap.seen(("at", 0)), ("fn", 1, list(range(1000))))
        self.assertEqual(heap.seen(("at", 1001)), ("box", "", [3]))

    def test_put(self):
        heap = Heap()
        heap.lay("box", "", [5])
        box = heap.lay("box", "", [6])
        heap.lay("box", "", [7])
        self.assertIsNone(heap.put(box, ("at", 4)))
        self.assertEqual([heap.seen(("at", place))[2] for place in (0, 2, 4)], [[5], [("at", 4)], [7]])
        heap.put(box, -1)
        self.assertEqual([heap.seen(("at", place))[2] for place in (0, 2, 4)], [[5], [-1], [7]])
        self.assertEqual(heap.used(), 6)
        heap.lay("block", "t", [1, 2, 3])
        heap.put(("at", 6), 9)
        self.assertEqual(heap.seen(("at", 6)), ("block", "t", [9, 2, 3]))

    def test_lists_are_not_shared(self):
        heap = Heap()
        values = [1, 2]
        heap.lay("block", "t", values)
        values[0] = 9
        values.append(3)
        self.assertEqual(heap.seen(("at", 0)), ("block", "t", [1, 2]))
        heap.seen(("at", 0))[2][1] = 8
        heap.seen(("at", 0))[2].clear()
        self.assertEqual(heap.seen(("at", 0)), ("block", "t", [1, 2]))
        self.assertEqual(values, [9, 2, 3])
        roots = [("at", 0), 4]
        told = heap.move(roots)
        self.assertEqual(roots, [("at", 0), 4])
        told.clear()
        self.assertEqual(heap.move(roots), roots)
        self.assertEqual(heap.seen(("at", 0)), ("block", "t", [1, 2]))

    def test_side_by_side(self):
        one, other = Heap(), Heap()
        one.lay("block", "t", [1])
        self.assertEqual((one.used(), other.used()), (2, 0))
        other.lay("box", "", [3])
        one.move([])
        self.assertEqual((one.used(), other.used()), (0, 2))
        self.assertEqual(other.seen(("at", 0)), ("box", "", [3]))


class Moving(unittest.TestCase):
    def setUp(self):
        self.graph = Graph(self)

    def test_no_roots(self):
        self.graph.lay("block", "t", [(1, 1)])
        self.graph.move([])
        self.assertEqual(self.graph.heap.used(), 0)
        self.assertEqual(self.graph.heap.lay("box", "", [1]), ("at", 0))

    def test_numbers(self):
        self.graph.lay("block", "t", [(1, 1)])
        self.assertEqual(self.graph.heap.move([0, -5, 10 ** 39]), [0, -5, 10 ** 39])
        self.assertEqual(self.graph.heap.used(), 0)

    def test_what_is_reached_alone(self):
        graph = self.graph
        first = graph.lay("block", "gone", [(1, 1), (2, 2)])
        second = graph.lay("box", "", [(3, 3)])
        third = graph.lay("fn", 4, [second, (8, 8)])
        graph.lay("block", "gone", [first, third])
        graph.move([third])
        self.assertEqual(graph.heap.used(), 5)
        graph.lay("block", "new", [graph.known[0]])
        self.assertEqual((graph.check(), graph.heap.used()), (7, 7))

    def test_the_same_thing_twice(self):
        box = self.graph.lay("box", "", [(3, 3)])
        self.graph.move([box, (7, 7), box, box])
        first, number, second, third = self.graph.known
        self.assertEqual((number[0], self.graph.heap.used()), (7, 2))
        self.assertEqual(first[0], second[0])
        self.assertEqual(first[0], third[0])

    def test_what_is_shared_stays_shared(self):
        graph = self.graph
        box = graph.lay("box", "", [(3, 3)])
        one = graph.lay("block", "t", [box, box])
        other = graph.lay("fn", 2, [one, box, one])
        graph.move([one, other])
        self.assertEqual(graph.heap.used(), 2 + 3 + 4)
        inside = graph.heap.seen(graph.heap.seen(graph.known[1][0])[2][0])[2]
        graph.heap.put(inside[0], 9)
        self.assertEqual(graph.heap.seen(inside[1])[2], [9])
        self.assertEqual(graph.heap.seen(graph.heap.seen(graph.known[1][0])[2][1])[2], [9])

    def test_a_thing_that_holds_itself(self):
        graph = self.graph
        graph.lay("block", "gone", [])
        box = graph.lay("box", "", [(0, 0)])
        graph.put(box, box)
        graph.move([box])
        self.assertEqual(graph.heap.used(), 2)
        value = graph.known[0][0]
        self.assertEqual(graph.heap.seen(value), ("box", "", [value]))
        graph.move(graph.known * 2)
        self.assertEqual(graph.heap.used(), 2)

    def test_rings(self):
        graph = self.graph
        box = graph.lay("box", "", [(0, 0)])
        fn = graph.lay("fn", 1, [box, (5, 5)])
        block = graph.lay("block", "t", [fn, box])
        graph.put(box, block)
        for root in (2, 0, 0):
            graph.move([graph.known[root]])
            self.assertEqual(graph.heap.used(), 2 + 3 + 3)

    def test_long_rows_of_things(self):
        graph = self.graph
        last = graph.lay("block", "end", [])
        for number in range(3000):
            last = graph.lay("block", "link", [(number, number), last])
        value = graph.heap.move([last[0]])[0]
        self.assertEqual(graph.heap.used(), 9001)
        for number in range(2999, -1, -1):
            kind, word, values = graph.heap.seen(value)
            self.assertEqual((kind, word, values[0]), ("block", "link", number))
            value = values[1]
        self.assertEqual(graph.heap.seen(value), ("block", "end", []))

    def test_again_and_again(self):
        graph = self.graph
        box = graph.lay("box", "", [(1, 1)])
        graph.lay("block", "t", [box, box, (2, 2)])
        for _ in range(5):
            graph.move(list(graph.known))
            self.assertEqual(graph.heap.used(), 6)
        graph.move(graph.known[:1])
        self.assertEqual(graph.heap.used(), 2)

    def test_by_chance(self):
        chance = random.Random(161)
        most = 0
        for _ in range(60):
            graph = Graph(self)
            for step in range(60):
                pairs = graph.known + [(7, 7), (-1, -1)]
                sort = chance.randrange(12)
                boxes = [pair for pair in graph.known if isinstance(pair[1], list) and len(pair[1][2]) == 1]
                if sort == 0:
                    graph.move(chance.choices(pairs, k=chance.randrange(8)))
                elif sort < 4 and boxes:
                    graph.put(chance.choice(boxes), chance.choice(pairs))
                else:
                    kind = chance.choice(["block", "fn", "box"])
                    many = 1 if kind == "box" else chance.randrange(5)
                    graph.lay(kind, chance.randrange(5), chance.choices(pairs, k=many))
                most = max(most, graph.heap.used())
                graph.check()
            graph.move(list(graph.known))
        self.assertGreater(most, 60)


if __name__ == "__main__":
    unittest.main()

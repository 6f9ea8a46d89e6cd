"""A heap for the tests that tells of its movings."""

from unittest import mock

from spacewright.heap import Heap


class MoveHeap(Heap):
    """Notes for each moving how many cells were in use ahead of it, and behind it, and how many roots were handed in."""

    made = []

    def __init__(self):
        Heap.__init__(self)
        self.moves = []
        MoveHeap.made.append(self)

    def move(self, roots):
        ahead = self.used()
        told = Heap.move(self, roots)
        self.moves.append((ahead, self.used(), len(roots)))
        return told


def told_and_moves(ask, *things):
    """What is told, and the movings of the machine that was made for it, an empty list where there was none."""
    MoveHeap.made.clear()
    with mock.patch("spacewright.machine.Heap", MoveHeap):
        told = ask(*things)
    return (told, [move for heap in MoveHeap.made for move in heap.moves])

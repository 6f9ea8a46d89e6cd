"""A heap: storage in two halves, one of which is in use."""

from spacewright.values import is_number


# In the first cell of a thing stand its kind, its word and how many values follow.
class Heap:
    def __init__(self):
        self.cells = []

    def used(self):
        return len(self.cells)

    def lay(self, kind, word, values):
        place = len(self.cells)
        self.cells.append((kind, word, len(values)))
        self.cells.extend(values)
        return ("at", place)

    def seen(self, value):
        first = value[1]
        kind, word, many = self.cells[first]
        return (kind, word, self.cells[first + 1:first + 1 + many])

    def put(self, value, inside):
        self.cells[value[1] + 1] = inside

    def move(self, roots):
        other = OtherHalf(self.cells)
        told = [other.moved_value(value) for value in roots]
        other.move_rest()
        self.cells = other.cells
        return told


# The half into which things are moved; places tells for each place of a thing that was moved its new one.
class OtherHalf:
    def __init__(self, left):
        self.left = left
        self.cells = []
        self.places = {}

    def moved_value(self, value):
        if is_number(value):
            return value
        first = value[1]
        if first not in self.places:
            self.places[first] = len(self.cells)
            self.cells.extend(self.left[first:first + 1 + self.left[first][2]])
        return ("at", self.places[first])

    # The values of a thing that has been moved still mean the half that was left. Changing them moves what they are,
    # which comes behind all that is here, and is changed in its turn.
    def move_rest(self):
        first = 0
        while first < len(self.cells):
            behind = first + 1 + self.cells[first][2]
            for place in range(first + 1, behind):
                self.cells[place] = self.moved_value(self.cells[place])
            first = behind

"""The world that all runners share: the deeds and their bound, the inputs, the log, and the calls that are open."""

from spacewright.errors import Ended
from spacewright.values import shown_of

MOST_CALLS = 50


class World:
    def __init__(self, inputs, most=1000):
        self.inputs = list(inputs)
        self.taken = 0
        self.most = most
        self.log = []
        self.deeds = []
        self.calls = 0
        self.deepest = 0

    def note(self, place):
        if len(self.deeds) >= self.most:
            raise Ended(("dry",))
        self.deeds.append(place)

    def take(self):
        if self.taken == len(self.inputs):
            return 0
        self.taken = self.taken + 1
        return self.inputs[self.taken - 1]

    def say(self, number):
        self.log.append(number)

    def enter(self, place):
        if self.calls >= MOST_CALLS:
            raise Ended(("deep", place))
        self.calls = self.calls + 1
        self.deepest = max(self.deepest, self.calls)

    def leave(self):
        self.calls = self.calls - 1

    def drop_to(self, many):
        self.calls = many

    def result(self, end):
        return (end, list(self.log), list(self.deeds), self.deepest)


# A runner has a world, and comes to its last value or tells by Ended, from however deep within, that its run is over.
def run_of(runner):
    try:
        end = ("value", shown_of(runner.last_value()))
    except Ended as ended:
        end = ended.end
    return runner.world.result(end)

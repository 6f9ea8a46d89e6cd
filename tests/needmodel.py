"""Needed names and slots told once more for the tests: found anew for each path, straight from the steps."""

import random

from closedmodel import uses_of
from shapes import bodies_of


def paths(body, ahead=()):
    """The paths of all steps, a step ahead of those within it."""
    found = []
    for number, step in enumerate(body[0]):
        found.append(ahead + (number,))
        for which, (names, within) in enumerate(bodies_of(step)):
            found.extend(paths(within, ahead + (number, which)))
    return found


def bodies_along(body, path):
    """For each body on the way to a step: the names given at its beginning, the body, the number of the step in it,
    and the number of the inner body that is next, None at the end."""
    found, names = [], ()
    for at in range(0, len(path), 2):
        which = path[at + 1] if at + 1 < len(path) else None
        found.append((names, body, path[at], which))
        if which is not None:
            names, body = bodies_of(body[0][path[at]])[which]
    return found


def step_at(body, path):
    last = bodies_along(body, path)[-1]
    return last[1][0][last[2]]


def there_at(code, path):
    found = set(code[1] + code[2])
    for names, body, number, which in bodies_along(code[3], path):
        found.update(names, [step[1] for step in body[0][:number]])
    return found


def used_behind(code, path):
    found = set()
    for names, body, number, which in bodies_along(code[3], path):
        found |= uses_of(body[0][number + 1:], body[1])
        step = body[0][number]
        if step[0] == "try" and which == 0:
            found |= uses_of(step[5][0], step[5][1])
    return found


def needed_model(code):
    found = []
    for path in paths(code[3]):
        step, there, later = step_at(code[3], path), there_at(code, path), used_behind(code, path)
        itself = uses_of((step,), ("number", 0))
        found.append((path, tuple(sorted(there & (itself | later))), tuple(sorted(there & later))))
    return found


def least(taken):
    return min(set(range(len(taken) + 1)) - set(taken))


def slots_model(code):
    slots = {}
    for name in code[1] + code[2]:
        slots[name] = len(slots)
    give_body(code, (), code[3], slots)
    return (max(slots.values()) + 1 if slots else 0, slots)


def give_body(code, ahead, body, slots):
    for number, step in enumerate(body[0]):
        path = ahead + (number,)
        there, later = there_at(code, path), used_behind(code, path)
        slots[step[1]] = least([slots[name] for name in there & later])
        for which, (names, within) in enumerate(bodies_of(step)):
            taken = [slots[name] for name in there & (later | uses_of(within[0], within[1]))]
            for name in names:
                slots[name] = least(taken)
                taken.append(slots[name])
            give_body(code, path + (which,), within, slots)


class ChanceCode:
    """Codes by chance, as they may be written by hand: the numbers of names rise or fall as they like, and closes
    name codes that may not be there."""

    def __init__(self, seed):
        self.chance = random.Random(seed)
        self.free = []
        self.boxes = []

    def code(self, depth=4):
        self.free = self.chance.sample(range(700), 500)
        self.boxes = []
        params = tuple([self.free.pop() for _ in range(self.chance.randrange(5))])
        kept = tuple(sorted([self.free.pop() for _ in range(self.chance.randrange(5))]))
        whole = self.body(params + kept, depth)
        used = uses_of(whole[0], whole[1])
        return (self.chance.randrange(600), params, tuple([name for name in kept if name in used]), whole)

    def body(self, there, depth):
        steps = []
        for _ in range(self.chance.randrange(5)):
            step = self.step(there, depth)
            steps.append(step)
            there = there + (step[1],)
        return (tuple(steps), self.atom(there))

    def atom(self, there):
        named = [name for name in there if name not in self.boxes]
        if named and self.chance.randrange(4):
            return ("name", self.chance.choice(named[-6:]))
        return ("number", self.chance.randrange(-9, 10))

    def atoms(self, there):
        return tuple([self.atom(there) for _ in range(self.chance.randrange(5))])

    def step(self, there, depth):
        word = self.chance.choice("box load store math make tell ask raise close call if match try".split())
        to, place = self.free.pop(), self.chance.randrange(600)
        if depth and word in ("if", "match", "try"):
            return self.step_with_bodies(word, to, place, there, depth - 1)
        boxes = [name for name in there if name in self.boxes]
        if word == "box":
            self.boxes.append(to)
            return (word, to, self.atom(there), place)
        if word in ("load", "store") and boxes:
            box = self.chance.choice(boxes)
            return (word, to, box) if word == "load" else (word, to, box, self.atom(there), place)
        if word == "math":
            return (word, to, "sub", self.atom(there), self.atom(there), place)
        if word == "close":
            names = self.chance.sample(there, self.chance.randrange(len(there) + 1))
            return (word, to, self.chance.randrange(1000), tuple(sorted(names)), place)
        if word == "raise":
            return (word, to, "oh", self.atom(there), place)
        if word == "call":
            return (word, to, self.atom(there), self.atoms(there), place, False)
        if word == "tell":
            return (word, to, self.atom(there), place)
        return ("make", to, "t", self.atoms(there), place) if word == "make" else ("ask", to, place)

    def step_with_bodies(self, word, to, place, there, depth):
        one = self.body(there, depth)
        if word == "if":
            return (word, to, self.atom(there), one, self.body(there, depth), place)
        if word == "match":
            names = tuple([self.free.pop() for _ in range(self.chance.randrange(5))])
            return (word, to, self.atom(there), "t", names, self.body(there + names, depth), one, place)
        name = self.free.pop()
        return (word, to, one, "oh", name, self.body(there + (name,), depth), place)


def chance_codes(seed, many):
    chance = ChanceCode(seed)
    return [chance.code() for _ in range(many)]

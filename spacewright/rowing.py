"""A closed program made into rows, in which each name is a slot."""

from spacewright.bodies import inner
from spacewright.needed import stands
from spacewright.rows import row_form
from spacewright.slots import slots_of


# Puts the rows of one code behind those of the codes ahead of it. A row that names one further on is told only when
# that one's number is known: a place for it is held until then.
class Rower:
    def __init__(self, code, slots, rows):
        self.slots = slots
        self.rows = rows
        self.needs = {}
        for path, step, ahead, behind in stands(code):
            self.needs[step[1]] = (ahead, behind)

    def add_steps(self, steps):
        for step in steps:
            if step[0] in ("if", "match", "try"):
                self.add_branches(step)
            else:
                self.rows.append(self.row_of(step))

    # A body that stands for the name.
    def add_inner(self, body, name):
        self.add_steps(body[0])
        self.rows.append(self.row_like("move", (name, body[1])))

    def add_branches(self, step):
        first, second = [body for names, body in inner(step)]
        head = self.hold_row()
        self.add_inner(first, step[1])
        if step[0] == "try":
            self.rows.append(("unguard",))
        jump = self.hold_row()
        self.rows[head] = self.head_of(step, len(self.rows))
        self.add_inner(second, step[1])
        self.rows[jump] = ("jump", len(self.rows))

    def hold_row(self):
        self.rows.append(None)
        return len(self.rows) - 1

    # The row by which it is chosen between the bodies of a step; other is the first row of the second one.
    def head_of(self, step, other):
        if step[0] == "if":
            return self.row_like("test", (step[2], other, step[5]))
        if step[0] == "match":
            return self.row_like("match", step[2:5] + (other, step[7]))
        return self.row_like("guard", step[3:5] + (other,))

    def row_of(self, step):
        word, to = step[:2]
        ahead, behind = self.needs[to]
        if word in ("make", "close", "box"):
            return self.row_like(word, step[1:]) + (self.live_slots(ahead),)
        if word == "raise":
            return self.row_like(word, step[2:])
        if word == "call" and step[5]:
            return self.row_like("last", step[2:5])
        if word == "call":
            return self.row_like(word, step[1:5]) + (self.live_slots(behind),)
        return self.row_like(word, step[1:])

    def live_slots(self, names):
        return tuple(sorted([self.slots[name] for name in names]))

    # The row of the word with these things, names standing as slots.
    def row_like(self, word, things):
        told = [self.thing_like(sort, thing) for sort, thing in zip(row_form(word), things)]
        return (word,) + tuple(told)

    def thing_like(self, sort, thing):
        if sort == "slot":
            return self.slots[thing]
        if sort == "slots":
            return tuple([self.slots[name] for name in thing])
        if sort == "operand":
            return self.operand_like(thing)
        if sort == "operands":
            return tuple([self.operand_like(atom) for atom in thing])
        if sort == "kept":
            return tuple([("slot", self.slots[name]) for name in thing])
        return thing

    def operand_like(self, atom):
        return ("slot", self.slots[atom[1]]) if atom[0] == "name" else atom


def rows_of(closed):
    codes = []
    rows = []
    for code in closed[0]:
        place, params, kept, body = code
        many, slots = slots_of(code)
        codes.append((place, len(params), len(kept), many, len(rows)))
        rower = Rower(code, slots, rows)
        rower.add_steps(body[0])
        rows.append(rower.row_like("back", (body[1],)))
    return (tuple(codes), tuple(rows))

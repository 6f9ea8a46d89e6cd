"""The rows of a closed program told once more for the tests, with names in the place of slots; and a run of rows that
looks, wherever a slot is asked, whether it holds what the name in its place holds."""

from closedmodel import Thing, shown
from model import End, Fault
from needmodel import needed_model, slots_model
from shapes import sorts


class Label:
    """Stands for the number of a row until that is known."""


class NamedRows:
    """The rows of one code: tuples of a word and a list of tuples (sort, thing)."""

    def __init__(self, code):
        self.found = []
        # By the names that the steps give, as each is given once in a code.
        self.needs = {}
        order = needed_model(code)
        self.collect(code[3], iter(order))
        self.steps(code[3])
        self.found.append(("back", [("operand", code[3][1])]))

    def collect(self, body, order):
        for step in body[0]:
            self.needs[step[1]] = next(order)[1:]
            for sort, thing in sorts(step):
                if sort == "body":
                    self.collect(thing, order)

    def steps(self, body):
        for step in body[0]:
            getattr(self, "of_" + step[0], self.of_any)(*step)

    def inner(self, body, to):
        self.steps(body)
        self.found.append(("move", [("slot", to), ("operand", body[1])]))

    def of_any(self, *step):
        sort_of = {"to": "slot", "name": "slot", "atom": "operand", "atoms": "operands"}
        self.found.append((step[0], [(sort_of.get(sort, "same"), thing) for sort, thing in sorts(step)]))

    def of_raise(self, *step):
        self.of_any(*step)
        self.found[-1][1].pop(0)

    def of_make(self, *step):
        self.of_any(*step)
        self.found[-1][1].append(("live", self.needs[step[1]][0]))

    def of_box(self, *step):
        self.of_make(*step)

    def of_close(self, word, to, number, names, place):
        operands = tuple([("name", name) for name in names])
        self.found.append((word, [("slot", to), ("same", number), ("operands", operands), ("same", place),
                                  ("live", self.needs[to][0])]))

    def of_call(self, word, to, atom, atoms, place, last):
        things = [("slot", to), ("operand", atom), ("operands", atoms), ("same", place), ("live", self.needs[to][1])]
        self.found.append(("last", things[1:4]) if last else (word, things))

    def of_if(self, word, to, atom, yes, no, place):
        self.choice("test", [("operand", atom)], [("same", place)], to, yes, no)

    def of_match(self, word, to, atom, tag, names, yes, no, place):
        self.choice(word, [("operand", atom), ("same", tag), ("slots", names)], [("same", place)], to, yes, no)

    def of_try(self, word, to, one, caught, name, other, place):
        self.choice("guard", [("same", caught), ("slot", name)], [], to, one, other, [("unguard", [])])

    def choice(self, word, ahead, behind, to, first, second, between=()):
        other, end = Label(), Label()
        self.found.append((word, ahead + [("row", other)] + behind))
        self.inner(first, to)
        self.found.extend(between)
        self.found.append(("jump", [("row", end)]))
        self.found.append(other)
        self.inner(second, to)
        self.found.append(end)


def named_rows(closed):
    """For each code its rows, with names and with the numbers of rows."""
    found, at, entries = [], {}, 0
    for code in closed[0]:
        rows = []
        for row in NamedRows(code).found:
            if isinstance(row, Label):
                at[row] = entries + len(rows)
            else:
                rows.append(row)
        found.append(rows)
        entries += len(rows)
    return [[(word, [(sort, at.get(thing, thing) if sort == "row" else thing) for sort, thing in things])
             for word, things in rows] for rows in found]


def slotted(sort, thing, slots):
    if sort == "slot":
        return slots[thing]
    if sort == "operand":
        return ("slot", slots[thing[1]]) if thing[0] == "name" else thing
    if sort == "operands":
        return tuple([slotted("operand", one, slots) for one in thing])
    if sort in ("slots", "live"):
        found = tuple([slots[name] for name in thing])
        return found if sort == "slots" else tuple(sorted(found))
    return thing


def rows_model(closed):
    codes, rows = [], []
    for code, named in zip(closed[0], named_rows(closed)):
        many, slots = slots_model(code)
        codes.append((code[0], len(code[1]), len(code[2]), many, len(rows)))
        for word, things in named:
            rows.append((word,) + tuple([slotted(sort, thing, slots) for sort, thing in things]))
    return (tuple(codes), tuple(rows))


class Frame:
    def __init__(self, entry):
        self.slots, self.names, self.at, self.guards = {}, {}, entry, []


class RowRun:
    """Each slot holds a tuple of a name and a value; names holds what the names of the frame hold."""

    def __init__(self, program, closed, inputs, most):
        self.codes, self.rows = program
        self.closed = closed[0]
        self.named = [row for rows in named_rows(closed) for row in rows]
        self.inputs, self.most = list(inputs), most
        self.log, self.deeds, self.calls, self.deepest = [], [], 0, 0
        self.frames = [self.frame(0, ())]
        self.asked = 0

    def frame(self, number, values):
        code, one = self.codes[number], self.closed[number]
        frame = Frame(code[4])
        for slot, (name, value) in enumerate(zip(one[1] + one[2], values)):
            self.give(frame, slot, name, value)
        return frame

    def give(self, frame, slot, name, value):
        assert 0 <= slot
        frame.slots[slot] = (name, value)
        frame.names[name] = value

    def look(self, slot, name):
        """What the slot holds, which must be what the name holds."""
        frame = self.frames[-1]
        self.asked += 1
        held = frame.slots[slot]
        assert held[0] == name and held[1] is frame.names[name], (slot, name, held)
        return held[1]

    def operand(self, operand, atom):
        return operand[1] if operand[0] == "number" else self.look(operand[1], atom[1])

    def run(self):
        try:
            while True:
                value = self.step()
                if value is not None:
                    return ("value", shown(value[0]))
        except Fault as fault:
            word, value, place = fault.args
            return ("fault", word, shown(value), place)
        except End as end:
            return end.args[0]

    def step(self):
        frame = self.frames[-1]
        row, (word, named) = self.rows[frame.at], self.named[frame.at]
        assert row[0] == word and len(row) == 1 + len(named)
        frame.at += 1
        for (sort, thing), slots in zip(named, row[1:]):
            if sort == "live":
                self.check_live(thing, slots)
        try:
            return getattr(self, "do_" + word)(frame, row[1:], [thing for sort, thing in named])
        except Fault as fault:
            self.catch(fault)
        return None

    def check_live(self, names, slots):
        found = sorted([self.frames[-1].slots[slot][0] for slot in slots])
        assert found == list(names), (found, names)
        for slot in slots:
            self.look(slot, self.frames[-1].slots[slot][0])

    def catch(self, fault):
        word, value, place = fault.args
        for number in range(len(self.frames) - 1, -1, -1):
            guards = self.frames[number].guards
            for at in range(len(guards) - 1, -1, -1):
                if guards[at][0] == word:
                    slot, name, row = guards[at][1:]
                    self.frames[number + 1:] = []
                    guards[at:] = []
                    self.give(self.frames[-1], slot, name, value)
                    self.frames[-1].at = row
                    self.calls = number
                    return
        raise fault

    def note(self, place):
        if len(self.deeds) == self.most:
            raise End(("dry",))
        self.deeds.append(place)

    def do_move(self, frame, row, named):
        self.give(frame, row[0], named[0], self.operand(row[1], named[1]))

    def do_math(self, frame, row, named):
        self.note(row[4])
        one, other = self.operand(row[2], named[2]), self.operand(row[3], named[3])
        if isinstance(one, Thing) or isinstance(other, Thing):
            raise Fault("kind", 0, row[4])
        told = {"add": one + other, "sub": one - other, "mul": one * other,
                "less": int(one < other), "same": int(one == other)}[row[1]]
        if not -10 ** 40 < told < 10 ** 40:
            raise Fault("big", 0, row[4])
        self.give(frame, row[0], named[0], told)

    def do_tell(self, frame, row, named):
        self.note(row[2])
        value = self.operand(row[1], named[1])
        if isinstance(value, Thing):
            raise Fault("kind", 0, row[2])
        self.log.append(value)
        self.give(frame, row[0], named[0], value)

    def do_ask(self, frame, row, named):
        self.note(row[1])
        self.give(frame, row[0], named[0], self.inputs.pop(0) if self.inputs else 0)

    def do_load(self, frame, row, named):
        self.give(frame, row[0], named[0], self.look(row[1], named[1]).fields[0])

    def do_store(self, frame, row, named):
        self.note(row[3])
        box, value = self.look(row[1], named[1]), self.operand(row[2], named[2])
        box.fields[0] = value
        self.give(frame, row[0], named[0], value)

    def do_make(self, frame, row, named):
        self.note(row[3])
        values = [self.operand(*pair) for pair in zip(row[2], named[2])]
        self.give(frame, row[0], named[0], Thing("block", row[1], values))

    def do_close(self, frame, row, named):
        self.note(row[3])
        values = [self.operand(*pair) for pair in zip(row[2], named[2])]
        self.give(frame, row[0], named[0], Thing("fn", (row[3], row[1]), values))

    def do_box(self, frame, row, named):
        self.give(frame, row[0], named[0], Thing("box", None, [self.operand(row[1], named[1])]))

    def called(self, row, named):
        self.note(row[2])
        fn, args = self.operand(row[0], named[0]), [self.operand(*pair) for pair in zip(row[1], named[1])]
        if not isinstance(fn, Thing) or fn.kind != "fn":
            raise Fault("kind", 0, row[2])
        if self.codes[fn.word[1]][1] != len(args):
            raise Fault("odd", 0, row[2])
        return self.frame(fn.word[1], args + fn.fields)

    def do_call(self, frame, row, named):
        new = self.called(row[1:], named[1:])
        if self.calls == 50:
            raise End(("deep", row[3]))
        self.calls += 1
        self.deepest = max(self.deepest, self.calls)
        self.frames.append(new)

    def do_last(self, frame, row, named):
        self.frames[-1] = self.called(row, named)

    def do_back(self, frame, row, named):
        value = self.operand(row[0], named[0])
        self.frames.pop()
        if not self.frames:
            return [value]
        self.calls -= 1
        below = self.frames[-1]
        call, (word, names) = self.rows[below.at - 1], self.named[below.at - 1]
        assert call[0] == word == "call"
        self.check_live(names[4][1], call[5])
        self.give(below, call[1], names[0][1], value)
        return None

    def do_test(self, frame, row, named):
        self.note(row[2])
        value = self.operand(row[0], named[0])
        if isinstance(value, Thing):
            raise Fault("kind", 0, row[2])
        if value == 0:
            frame.at = row[1]

    def do_match(self, frame, row, named):
        self.note(row[4])
        value = self.operand(row[0], named[0])
        if isinstance(value, Thing) and (value.kind, value.word, len(value.fields)) == ("block", row[1], len(row[2])):
            for slot, name, field in zip(row[2], named[2], value.fields):
                self.give(frame, slot, name, field)
        else:
            frame.at = row[3]

    def do_jump(self, frame, row, named):
        frame.at = row[0]

    def do_guard(self, frame, row, named):
        frame.guards.append((row[0], row[1], named[1], row[2]))

    def do_unguard(self, frame, row, named):
        frame.guards.pop()

    def do_raise(self, frame, row, named):
        self.note(row[2])
        raise Fault(row[0], self.operand(row[1], named[1]), row[2])


def run_of_rows(program, closed, inputs, most=1000):
    """The run, and how many slots were looked at."""
    run = RowRun(program, closed, inputs, most)
    end = run.run()
    return ((end, run.log, run.deeds, run.deepest), run.asked)

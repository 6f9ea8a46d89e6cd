"""The run of a closed program with a room, told once more for the tests: by Python's own calls, and with what is
reached found anew at each asking, straight from the steps."""

import sys

from model import End, Fault
from shapes import all_steps, atoms_of, bodies_of, place_of


class Thing:
    def __init__(self, kind, word, fields):
        self.kind, self.word, self.fields = kind, word, fields


class Again:
    def __init__(self, fn, args):
        self.fn, self.args = fn, args


class Frame:
    def __init__(self, names):
        self.names = names
        # Lists of a body that is being done, the number of its step, and the other of a try whose one it is.
        self.doing = []


def shown(value, within=False):
    if not isinstance(value, Thing):
        return value
    if value.kind == "fn":
        return ("fn", value.word[0])
    return ("block", value.word) if within else ("block", value.word, tuple([shown(one, True) for one in value.fields]))


def uses_of(steps, last):
    atoms = [last]
    for step in steps:
        atoms.extend(atoms_of(step))
        for names, within in bodies_of(step):
            atoms.append(within[1])
            for inside in all_steps(within):
                atoms.extend(atoms_of(inside) + [body[1] for _, body in bodies_of(inside)])
    return {atom[1] for atom in atoms if atom[0] == "name"}


class ClosedModel:
    def __init__(self, codes, inputs, most, room):
        self.codes, self.inputs, self.most, self.room = codes, list(inputs), most, room
        self.log, self.deeds, self.calls, self.deepest = [], [], 0, 0
        self.frames, self.full = [], None

    def run(self):
        try:
            self.frames.append(Frame({}))
            return ("value", shown(self.whole(self.codes[0][3])))
        except Fault as fault:
            word, value, place = fault.args
            return ("fault", word, shown(value), place)
        except End as end:
            return end.args[0]

    def whole(self, body):
        frame = self.frames[-1]
        value = self.body(frame, body)
        while isinstance(value, Again):
            code = self.codes[value.fn.word[1]]
            frame.names = dict(list(zip(code[1], value.args)) + list(zip(code[2], value.fn.fields)))
            value = self.body(frame, code[3])
        return value

    def body(self, frame, body, other=None):
        doing = [body, 0, other]
        frame.doing.append(doing)
        for number, step in enumerate(body[0]):
            doing[1] = number
            if step[0] not in ("box", "load", "try"):
                if len(self.deeds) == self.most:
                    raise End(("dry",))
                self.deeds.append(place_of(step))
            frame.names[step[1]] = getattr(self, "do_" + step[0])(frame, step)
        value = self.atom(frame, body[1])
        frame.doing.pop()
        return value

    def atom(self, frame, atom):
        return frame.names[atom[1]] if atom[0] == "name" else atom[1]

    def number(self, value, step):
        if isinstance(value, Thing):
            raise Fault("kind", 0, place_of(step))
        return value

    def lay(self, step, kind, word, fields):
        if self.room is not None:
            told = self.told()
            if 1 + len(fields) + sum([1 + len(inside) for _, inside in told[1]]) > self.room:
                self.full = (place_of(step), 1 + len(fields)) + told
                raise End(("full", place_of(step)))
        return Thing(kind, word, fields)

    def told(self):
        things, numbers, frames = [], {}, []

        def told_value(value):
            if not isinstance(value, Thing):
                return value
            if id(value) not in numbers:
                numbers[id(value)] = len(things)
                things.append(value)
            return ("thing", numbers[id(value)])

        for frame in self.frames:
            uses = set()
            for body, number, other in frame.doing:
                uses |= uses_of(body[0][number + 1:], body[1])
                if other is not None:
                    uses |= uses_of(other[0], other[1])
            if frame is self.frames[-1]:
                uses |= uses_of(body[0][number:], body[1])
            frames.append([(name, told_value(frame.names[name])) for name in sorted(uses) if name in frame.names])
        told_things = []
        for thing in things:  # told_value lengthens the list while it is walked
            told_things.append((thing.kind, tuple([told_value(value) for value in thing.fields])))
        return (frames, told_things)

    def do_make(self, frame, step):
        return self.lay(step, "block", step[2], [self.atom(frame, atom) for atom in step[3]])

    def do_close(self, frame, step):
        return self.lay(step, "fn", (step[4], step[2]), [frame.names[name] for name in step[3]])

    def do_box(self, frame, step):
        return self.lay(step, "box", None, [self.atom(frame, step[2])])

    def do_load(self, frame, step):
        return frame.names[step[2]].fields[0]

    def do_store(self, frame, step):
        frame.names[step[2]].fields[0] = self.atom(frame, step[3])
        return frame.names[step[2]].fields[0]

    def do_math(self, frame, step):
        one, other = [self.number(self.atom(frame, atom), step) for atom in step[3:5]]
        told = {"add": one + other, "sub": one - other, "mul": one * other,
                "less": int(one < other), "same": int(one == other)}[step[2]]
        if not -10 ** 40 < told < 10 ** 40:
            raise Fault("big", 0, place_of(step))
        return told

    def do_tell(self, frame, step):
        self.log.append(self.number(self.atom(frame, step[2]), step))
        return self.log[-1]

    def do_ask(self, frame, step):
        return self.inputs.pop(0) if self.inputs else 0

    def do_raise(self, frame, step):
        raise Fault(step[2], self.atom(frame, step[3]), place_of(step))

    def do_if(self, frame, step):
        return self.body(frame, step[3] if self.number(self.atom(frame, step[2]), step) else step[4])

    def do_match(self, frame, step):
        value = self.atom(frame, step[2])
        if isinstance(value, Thing) and value.kind == "block" and value.word == step[3]:
            if len(value.fields) == len(step[4]):
                frame.names.update(zip(step[4], value.fields))
                return self.body(frame, step[5])
        return self.body(frame, step[6])

    def do_try(self, frame, step):
        calls, frames, doing = self.calls, list(self.frames), list(frame.doing)
        try:
            return self.body(frame, step[2], step[5])
        except Fault as fault:
            word, value, place = fault.args
            if word != step[3]:
                raise
        self.calls, self.frames, frame.doing = calls, frames, doing
        frame.names[step[4]] = value
        return self.body(frame, step[5])

    def do_call(self, frame, step):
        fn, args = self.atom(frame, step[2]), [self.atom(frame, atom) for atom in step[3]]
        if not isinstance(fn, Thing) or fn.kind != "fn":
            raise Fault("kind", 0, place_of(step))
        code = self.codes[fn.word[1]]
        if len(code[1]) != len(args):
            raise Fault("odd", 0, place_of(step))
        if step[5]:
            return Again(fn, args)
        if self.calls == 50:
            raise End(("deep", place_of(step)))
        self.calls += 1
        self.deepest = max(self.deepest, self.calls)
        self.frames.append(Frame(dict(list(zip(code[1], args)) + list(zip(code[2], fn.fields)))))
        value = self.whole(code[3])
        self.frames.pop()
        self.calls -= 1
        return value


def closed_model(closed, inputs, most=1000, room=None):
    """The run, and what is told where it ends as full."""
    model = ClosedModel(closed[0], inputs, most, room)
    limit = sys.getrecursionlimit()
    sys.setrecursionlimit(100000)
    try:
        end = model.run()
    finally:
        sys.setrecursionlimit(limit)
    return ((end, model.log, model.deeds, model.deepest), model.full)


def in_order(full):
    """What is told of a full room, its things in the order in which they are met first."""
    place, asked, frames, things = full
    met = []

    def meet(value):
        if isinstance(value, tuple) and value[1] not in met:
            met.append(value[1])

    def renumbered(value):
        return ("thing", met.index(value[1])) if isinstance(value, tuple) else value

    for frame in frames:
        for name, value in frame:
            meet(value)
    for number in met:
        for value in things[number][1]:
            meet(value)
    told = [(things[number][0], tuple([renumbered(value) for value in things[number][1]])) for number in met]
    return (place, asked, [[(name, renumbered(value)) for name, value in frame] for frame in frames], told)

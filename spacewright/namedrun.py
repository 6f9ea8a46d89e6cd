"""A body run step by step: that of a named program, or of a boxed one."""

from spacewright.errors import Ended
from spacewright.values import Block, Function, call_fault, is_number, matched_fields, math_of, shown_of
from spacewright.worlds import World, run_of

NO_DEEDS = ("start", "read", "box", "load", "try")


# What the names of one call, or of the program itself, hold; outer is the frame in which the function was made.
# Each name is given at most once in a frame, so the frame serves as the cell of a name that is set.
class Frame:
    def __init__(self, outer):
        self.names = {}
        self.outer = outer


class BodyFunction(Function):
    def __init__(self, place, params, body, outer):
        Function.__init__(self, place)
        self.params = params
        self.body = body
        self.outer = outer


# A body that is being done, so many of its steps having begun. A base is the body of a whole frame. The guard is the
# try step of which this body is the one, and calls how many calls were open when it began.
class Spot:
    def __init__(self, body, frame, base):
        self.body = body
        self.frame = frame
        self.base = base
        self.begun = 0
        self.guard = None
        self.calls = 0


# The frame in which the name was given, this one or one round it; None where there is none.
def frame_with(frame, name):
    while frame is not None and name not in frame.names:
        frame = frame.outer
    return frame


def place_of(step):
    return step[4] if step[0] == "call" else step[-1]


def do_start(run, step):
    run.give(run.value_of(step[2]))


def do_read(run, step):
    run.give(run.held_by(step[2]))


def do_set(run, step):
    value = run.value_of(step[3])
    frame = frame_with(run.spots[-1].frame, step[2])
    frame.names[step[2]] = value
    run.give(value)


def do_math(run, step):
    word, number = math_of(step[2], run.value_of(step[3]), run.value_of(step[4]))
    if word is None:
        run.give(number)
    else:
        run.fault(word, 0, place_of(step))


def do_make(run, step):
    run.give(Block(step[2], [run.value_of(atom) for atom in step[3]]))


def do_tell(run, step):
    value = run.value_of(step[2])
    if not is_number(value):
        run.fault("kind", 0, place_of(step))
    else:
        run.world.say(value)
        run.give(value)


def do_ask(run, step):
    run.give(run.world.take())


def do_raise(run, step):
    run.fault(step[2], run.value_of(step[3]), place_of(step))


def do_func(run, step):
    run.give(BodyFunction(place_of(step), step[2], step[3], run.spots[-1].frame))


def do_call(run, step):
    atom, atoms, place, last = step[2:]
    function = run.value_of(atom)
    word = call_fault(function, len(atoms))
    if word is not None:
        run.fault(word, 0, place)
        return
    frame = Frame(function.outer)
    for name, argument in zip(function.params, atoms):
        frame.names[name] = run.value_of(argument)
    if last:
        run.drop_frame()
    else:
        run.world.enter(place)
    run.spots.append(Spot(function.body, frame, True))


def do_if(run, step):
    value = run.value_of(step[2])
    if not is_number(value):
        run.fault("kind", 0, place_of(step))
    else:
        run.begin_inner(step[4] if value == 0 else step[3], (), ())


def do_match(run, step):
    atom, tag, names, yes, no = step[2:7]
    fields = matched_fields(run.value_of(atom), tag, len(names))
    if fields is None:
        run.begin_inner(no, (), ())
    else:
        run.begin_inner(yes, names, fields)


def do_try(run, step):
    run.begin_inner(step[2], (), ())
    spot = run.spots[-1]
    spot.guard = step
    spot.calls = run.world.calls


# A start and a box, and what follows from them, are alike here: nothing but reads and sets, or loads and stores, can
# tell what such a name holds.
DOINGS = {
    "start": do_start, "read": do_read, "set": do_set, "box": do_start, "load": do_read, "store": do_set,
    "math": do_math, "make": do_make, "tell": do_tell, "ask": do_ask, "raise": do_raise, "func": do_func,
    "call": do_call, "if": do_if, "match": do_match, "try": do_try,
}


# Keeps its own row of spots, the newest last, as calls and bodies together may go deeper than Python's calls do.
class BodyRun:
    def __init__(self, body, world, doings):
        self.world = world
        self.doings = doings
        self.spots = [Spot(body, Frame(None), True)]

    def last_value(self):
        value = 0
        while self.spots:
            spot = self.spots[-1]
            steps, last = spot.body[:2]
            if spot.begun < len(steps):
                spot.begun = spot.begun + 1
                self.do_step(steps[spot.begun - 1])
            else:
                value = self.value_of(last)
                self.end_body(value)
        return value

    def do_step(self, step):
        if step[0] not in NO_DEEDS:
            self.world.note(place_of(step))
        self.doings[step[0]](self, step)

    def end_body(self, value):
        spot = self.spots.pop()
        if self.spots:
            if spot.base:
                self.world.leave()
            self.give(value)

    def value_of(self, atom):
        return atom[1] if atom[0] == "number" else self.held_by(atom[1])

    def held_by(self, name):
        return frame_with(self.spots[-1].frame, name).names[name]

    # To the name of the step at which the newest body is.
    def give(self, value):
        spot = self.spots[-1]
        frame = spot.frame
        frame.names[spot.body[0][spot.begun - 1][1]] = value

    def begin_inner(self, body, names, values):
        frame = self.spots[-1].frame
        for name, value in zip(names, values):
            frame.names[name] = value
        self.spots.append(Spot(body, frame, False))

    def drop_frame(self):
        spot = self.spots.pop()
        while not spot.base:
            spot = self.spots.pop()

    def fault(self, word, value, place):
        while self.spots:
            spot = self.spots.pop()
            if spot.guard is not None and spot.guard[3] == word:
                self.world.drop_to(spot.calls)
                self.begin_inner(spot.guard[5], (spot.guard[4],), (value,))
                return
        raise Ended(("fault", word, shown_of(value), place))


def run_named(named, inputs, most=1000):
    return run_of(BodyRun(named[0], World(inputs, most), dict(DOINGS)))

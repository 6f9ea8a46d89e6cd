"""The run of a closed program, with or without a room for its things, and what is reached where the room is full."""

from spacewright.bodies import inner, rests_of, with_inner
from spacewright.errors import Ended
from spacewright.namedrun import DOINGS, BodyFunction, BodyRun, Frame, frame_with
from spacewright.values import Block, is_number
from spacewright.worlds import World, run_of


# Blocks, functions and boxes are things. A mark, which no other thing of the run has, tells one from all others.
class MarkedBlock(Block):
    def __init__(self, tag, fields, mark):
        Block.__init__(self, tag, fields)
        self.mark = mark


# What it keeps is in its outer frame.
class MarkedFunction(BodyFunction):
    def __init__(self, place, params, body, outer, mark):
        BodyFunction.__init__(self, place, params, body, outer)
        self.mark = mark


class Box:
    def __init__(self, inside, mark):
        self.inside = inside
        self.mark = mark


def kind_and_fields(thing):
    if isinstance(thing, Block):
        return ("block", thing.fields)
    if isinstance(thing, Box):
        return ("box", (thing.inside,))
    return ("fn", tuple(thing.outer.names.values()))


# How many cells the things, told by their kinds and fields, take.
def cells_of(things):
    return sum([1 + len(fields) for kind, fields in things])


# The things that are met, each once, in the order in which they are met first.
class Reach:
    def __init__(self):
        self.things = []
        self.met = {}

    def told_value(self, value):
        if is_number(value):
            return value
        if value.mark not in self.met:
            self.met[value.mark] = len(self.things)
            self.things.append(value)
        return ("thing", self.met[value.mark])

    # Telling a thing may meet others: these come behind, and are told in their turn.
    def told_things(self):
        told = []
        while len(told) < len(self.things):
            kind, fields = kind_and_fields(self.things[len(told)])
            told.append((kind, tuple([self.told_value(field) for field in fields])))
        return told


# The body, and those within it, with a third thing: its rests.
def with_rests(body):
    steps, last = body
    grown = [step_with_rests(step) for step in steps]
    return (tuple(grown), last, rests_of(body))


def step_with_rests(step):
    return with_inner(step, [(names, with_rests(body)) for names, body in inner(step)])


def do_make(run, step):
    tag, atoms, place = step[2:]
    run.ask_for(1 + len(atoms), place)
    run.give(MarkedBlock(tag, [run.value_of(atom) for atom in atoms], run.new_mark()))


def do_close(run, step):
    number, names, place = step[2:]
    params, kept, body = run.codes[number][1:]
    run.ask_for(1 + len(kept), place)
    outer = Frame(None)
    for inside, name in zip(kept, names):
        outer.names[inside] = run.held_by(name)
    run.give(MarkedFunction(place, params, body, outer, run.new_mark()))


def do_box(run, step):
    run.ask_for(2, step[3])
    run.give(Box(run.value_of(step[2]), run.new_mark()))


def do_load(run, step):
    run.give(run.held_by(step[2]).inside)


def do_store(run, step):
    value = run.value_of(step[3])
    box = run.held_by(step[2])
    box.inside = value
    run.give(value)


def closed_doings():
    doings = dict(DOINGS)
    doings["make"] = do_make
    doings["close"] = do_close
    doings["box"] = do_box
    doings["load"] = do_load
    doings["store"] = do_store
    return doings


class ClosedRun(BodyRun):
    def __init__(self, codes, world, room):
        BodyRun.__init__(self, codes[0][3], world, closed_doings())
        self.codes = codes
        self.room = room
        self.marks = 0
        self.at_most = 0
        self.fullness = None

    def new_mark(self):
        self.marks = self.marks + 1
        return self.marks

    # What was not reached once is never reached again. So the cells that were reached when they were counted last, and
    # those asked for since, are the most that there can be, and only beyond the room they must be counted anew.
    def ask_for(self, cells, place):
        if self.room is None:
            return
        self.at_most = self.at_most + cells
        if self.at_most <= self.room:
            return
        frames, things = self.reached()
        held = cells_of(things)
        if held + cells > self.room:
            self.fullness = (place, cells, frames, things)
            raise Ended(("full", place))
        self.at_most = held + cells

    def reached(self):
        reach = Reach()
        frames = []
        for frame, names in self.frames_with_names():
            holders = [(name, frame_with(frame, name)) for name in sorted(names)]
            there = [(name, holder.names[name]) for name, holder in holders if holder is not None]
            frames.append([(name, reach.told_value(value)) for name, value in there])
        return (frames, reach.told_things())

    # For each frame the names that its rest uses, as the keys of a dict: there or not.
    def frames_with_names(self):
        found = []
        for spot in self.spots:
            if spot.base:
                found.append((spot.frame, {}))
            add_uses(found[-1][1], spot, spot.begun)
        # The step that asks uses names of its own.
        newest = self.spots[-1]
        add_uses(found[-1][1], newest, newest.begun - 1)
        return found


def add_uses(names, spot, at):
    for name in spot.body[2][at]:
        names[name] = True
    if spot.guard is not None:
        for name in spot.guard[5][2][0]:
            names[name] = True


def finished_run(closed, inputs, most, room):
    codes = closed[0]
    if room is not None:
        codes = [code[:3] + (with_rests(code[3]),) for code in codes]
    run = ClosedRun(codes, World(inputs, most), room)
    return (run_of(run), run.fullness)


def run_closed(closed, inputs, most=1000, room=None):
    return finished_run(closed, inputs, most, room)[0]


def full_closed(closed, inputs, most, room):
    return finished_run(closed, inputs, most, room)[1]

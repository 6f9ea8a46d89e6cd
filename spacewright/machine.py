"""The machine: it runs rows with one stack of frames and a heap."""

from spacewright.errors import Ended
from spacewright.heap import Heap
from spacewright.values import Block, Function, is_number, math_of, shown_of
from spacewright.worlds import World, run_of

NO_DEEDS = ("move", "load", "box", "back", "jump", "guard", "unguard")
WITH_LIVE = ("make", "close", "box", "call")


# Begins with these values in its first slots. The row that comes next is told by its number; guards are tuples of a
# word, a slot and the number of a row.
class SlotFrame:
    def __init__(self, code, first):
        self.slots = first + [0] * (code[3] - len(first))
        self.next_row = code[4]
        self.guards = []


# Of rows that have a place.
def place_of(row):
    return row[-2] if row[0] in WITH_LIVE else row[-1]


def do_move(machine, row):
    machine.give(row[1], machine.value_of(row[2]))


def do_math(machine, row):
    word, number = math_of(row[2], machine.value_of(row[3]), machine.value_of(row[4]))
    if word is None:
        machine.give(row[1], number)
    else:
        machine.fault(word, 0, place_of(row))


def do_tell(machine, row):
    value = machine.value_of(row[2])
    if is_number(value):
        machine.world.say(value)
        machine.give(row[1], value)
    else:
        machine.fault("kind", 0, place_of(row))


def do_ask(machine, row):
    machine.give(row[1], machine.world.take())


def do_load(machine, row):
    kind, word, inside = machine.heap.seen(machine.value_in(row[2]))
    machine.give(row[1], inside[0])


def do_store(machine, row):
    value = machine.value_of(row[3])
    machine.heap.put(machine.value_in(row[2]), value)
    machine.give(row[1], value)


# The operands are read behind the asking, which may move what they are.
def do_make(machine, row):
    machine.ask_for(1 + len(row[3]), row)
    machine.give(row[1], machine.heap.lay("block", row[2], machine.values_of(row[3])))


def do_close(machine, row):
    machine.ask_for(1 + len(row[3]), row)
    machine.give(row[1], machine.heap.lay("fn", row[2], machine.values_of(row[3])))


def do_box(machine, row):
    machine.ask_for(2, row)
    machine.give(row[1], machine.heap.lay("box", "", [machine.value_of(row[2])]))


def do_call(machine, row):
    frame = machine.called_frame(row[2], row[3], place_of(row))
    if frame is not None:
        machine.world.enter(place_of(row))
        machine.frames.append(frame)


def do_last(machine, row):
    frame = machine.called_frame(row[1], row[2], place_of(row))
    if frame is not None:
        machine.frames.pop()
        machine.frames.append(frame)


def do_back(machine, row):
    value = machine.value_of(row[1])
    machine.frames.pop()
    if machine.frames:
        machine.world.leave()
        machine.give(machine.row_at(machine.frames[-1])[1], value)
    else:
        machine.outcome = value


def do_test(machine, row):
    value = machine.value_of(row[1])
    if not is_number(value):
        machine.fault("kind", 0, place_of(row))
    elif value == 0:
        machine.go_on_with(row[2])


def do_match(machine, row):
    kind, word, inside = machine.thing_of(machine.value_of(row[1]))
    if (kind, word, len(inside)) != ("block", row[2], len(row[3])):
        machine.go_on_with(row[4])
        return
    for slot, field in zip(row[3], inside):
        machine.give(slot, field)


def do_jump(machine, row):
    machine.go_on_with(row[1])


def do_guard(machine, row):
    machine.frames[-1].guards.append(row[1:])


def do_unguard(machine, row):
    machine.frames[-1].guards.pop()


def do_raise(machine, row):
    machine.fault(row[1], machine.value_of(row[2]), place_of(row))


DOINGS = {
    "move": do_move, "math": do_math, "tell": do_tell, "ask": do_ask, "load": do_load, "store": do_store,
    "make": do_make, "close": do_close, "box": do_box, "call": do_call, "last": do_last, "back": do_back,
    "test": do_test, "match": do_match, "jump": do_jump, "guard": do_guard, "unguard": do_unguard, "raise": do_raise,
}


class Machine:
    def __init__(self, program, world, room, every):
        self.codes = program[0]
        self.rows = program[1]
        self.world = world
        self.room = room
        self.every = every
        self.heap = Heap()
        self.frames = [SlotFrame(self.codes[0], [])]
        self.askings = 0
        self.outcome = 0
        self.fullness = None

    def last_value(self):
        while self.frames:
            frame = self.frames[-1]
            frame.next_row = frame.next_row + 1
            row = self.row_at(frame)
            if row[0] not in NO_DEEDS:
                self.world.note(place_of(row))
            DOINGS[row[0]](self, row)
        return self.as_shown(self.outcome, True)

    # The row that is being done in the running frame, and in a frame below the call row at which it waits.
    def row_at(self, frame):
        return self.rows[frame.next_row - 1]

    def go_on_with(self, number):
        frame = self.frames[-1]
        frame.next_row = number

    def value_in(self, slot):
        return self.frames[-1].slots[slot]

    def value_of(self, operand):
        return operand[1] if operand[0] == "number" else self.value_in(operand[1])

    def values_of(self, operands):
        return [self.value_of(operand) for operand in operands]

    def give(self, slot, value):
        slots = self.frames[-1].slots
        slots[slot] = value

    # The kind, the word and the values of what any value is; of a number there is none of them.
    def thing_of(self, value):
        return (None, None, []) if is_number(value) else self.heap.seen(value)

    # None where the call comes to a fault.
    def called_frame(self, operand, operands, place):
        kind, number, kept = self.thing_of(self.value_of(operand))
        if kind != "fn":
            self.fault("kind", 0, place)
            return None
        code = self.codes[number]
        if code[1] != len(operands):
            self.fault("odd", 0, place)
            return None
        return SlotFrame(code, self.values_of(operands) + kept)

    def fault(self, word, value, place):
        while self.frames:
            frame = self.frames[-1]
            while frame.guards:
                guarded, slot, number = frame.guards.pop()
                if guarded == word:
                    self.give(slot, value)
                    self.go_on_with(number)
                    self.world.drop_to(len(self.frames) - 1)
                    return
            self.frames.pop()
        raise Ended(("fault", word, shown_of(self.as_shown(value, True)), place))

    def ask_for(self, cells, row):
        self.askings = self.askings + 1
        due = self.every > 0 and self.askings % self.every == 0
        if due or self.is_beyond(cells):
            self.move_things()
        if self.is_beyond(cells):
            self.fullness = (place_of(row), cells, self.heap.used())
            raise Ended(("full", place_of(row)))

    def is_beyond(self, cells):
        return self.room is not None and self.heap.used() + cells > self.room

    # The rows at which frames stand while a thing is asked for all have their live slots last.
    def move_things(self):
        spots = []
        for frame in self.frames:
            spots.extend([(frame, slot) for slot in self.row_at(frame)[-1]])
        told = self.heap.move([frame.slots[slot] for frame, slot in spots])
        for spot, value in zip(spots, told):
            frame, slot = spot
            slots = frame.slots
            slots[slot] = value

    # The value as the other runners have it, as far as it is shown: a block within a block without its fields.
    def as_shown(self, value, whole):
        if is_number(value):
            return value
        kind, word, inside = self.heap.seen(value)
        if kind == "fn":
            return Function(self.codes[word][0])
        return Block(word, [self.as_shown(field, False) for field in inside] if whole else ())


def finished_machine(program, inputs, most, room, every):
    machine = Machine(program, World(inputs, most), room, every)
    return (run_of(machine), machine.fullness)


def run_rows(program, inputs, most=1000, room=None, every=0):
    return finished_machine(program, inputs, most, room, every)[0]


def full_rows(program, inputs, most, room, every=0):
    return finished_machine(program, inputs, most, room, every)[1]

"""A program run as it stands: its parts are done in scopes, in which each name has a cell of its own."""

from spacewright.errors import Ended
from spacewright.parts import checked_program, parts_ahead
from spacewright.values import Block, Function, call_fault, is_number, matched_fields, math_of, shown_of
from spacewright.worlds import World, run_of

NO_DEEDS = ("let", "do", "try")
# Stands among the jobs, in the place of a part, below the body of a call that was entered.
LEAVE = ("leave",)


class Cell:
    def __init__(self, inside):
        self.inside = inside


class SourceFunction(Function):
    def __init__(self, part, scope):
        Function.__init__(self, part[1])
        self.params = part[2]
        self.body = part[3]
        self.scope = scope


# A part that is to be done. From when it has begun, height tells from where on the values of what is done ahead of
# it lie on the pile, and calls how many calls were open then.
class Job:
    def __init__(self, part, scope, last):
        self.part = part
        self.scope = scope
        self.last = last
        self.height = None
        self.calls = 0


def scope_with(scope, names, values):
    grown = dict(scope)
    for name, value in zip(names, values):
        grown[name] = Cell(value)
    return grown


def first_parts(part):
    if part[0] == "let":
        return (part[3],)
    if part[0] in ("do", "try"):
        return (part[2],)
    return parts_ahead(part)


def finish_let(run, job, values):
    run.add_job(job.part[4], scope_with(job.scope, (job.part[2],), values), job.last)


def finish_do(run, job, values):
    run.add_job(job.part[3], job.scope, job.last)


def finish_try(run, job, values):
    run.pile.append(values[0])


def finish_fn(run, job, values):
    run.pile.append(SourceFunction(job.part, job.scope))


def finish_call(run, job, values):
    place = job.part[1]
    function = values[0]
    arguments = values[1:]
    word = call_fault(function, len(arguments))
    if word is not None:
        run.fault(word, 0, place)
        return
    if not job.last:
        run.world.enter(place)
        run.add_job(LEAVE, {}, False)
    run.add_job(function.body, scope_with(function.scope, function.params, arguments), True)


def finish_set(run, job, values):
    cell = job.scope[job.part[2]]
    cell.inside = values[0]
    run.pile.append(values[0])


def finish_if(run, job, values):
    if not is_number(values[0]):
        run.fault("kind", 0, job.part[1])
    else:
        run.add_job(job.part[4] if values[0] == 0 else job.part[3], job.scope, job.last)


def finish_math(run, job, values):
    word, number = math_of(job.part[2], values[0], values[1])
    if word is None:
        run.pile.append(number)
    else:
        run.fault(word, 0, job.part[1])


def finish_make(run, job, values):
    run.pile.append(Block(job.part[2], values))


def finish_match(run, job, values):
    tag, names, yes, no = job.part[3:]
    fields = matched_fields(values[0], tag, len(names))
    if fields is None:
        run.add_job(no, job.scope, job.last)
    else:
        run.add_job(yes, scope_with(job.scope, names, fields), job.last)


def finish_raise(run, job, values):
    run.fault(job.part[2], values[0], job.part[1])


def finish_tell(run, job, values):
    if not is_number(values[0]):
        run.fault("kind", 0, job.part[1])
    else:
        run.world.say(values[0])
        run.pile.append(values[0])


def finish_ask(run, job, values):
    run.pile.append(run.world.take())


FINISHES = {
    "let": finish_let, "do": finish_do, "try": finish_try, "fn": finish_fn, "call": finish_call, "set": finish_set,
    "if": finish_if, "math": finish_math, "make": finish_make, "match": finish_match, "raise": finish_raise,
    "tell": finish_tell, "ask": finish_ask,
}


# Keeps its own row of jobs, the newest last, as calls and brackets together may go deeper than Python's calls do.
# Each job leaves one value on the pile when it is through.
class SourceRun:
    def __init__(self, program, world):
        self.world = world
        self.jobs = [Job(program, {}, True)]
        self.pile = []

    def last_value(self):
        while self.jobs:
            job = self.jobs.pop()
            if job.height is None:
                self.begin(job)
            else:
                self.finish(job)
        return self.pile[0]

    def add_job(self, part, scope, last):
        self.jobs.append(Job(part, scope, last))

    def begin(self, job):
        kind = job.part[0]
        if kind == "number":
            self.pile.append(job.part[2])
        elif kind == "name":
            self.pile.append(job.scope[job.part[2]].inside)
        elif kind == "leave":
            self.world.leave()
        else:
            job.height = len(self.pile)
            job.calls = self.world.calls
            self.jobs.append(job)
            for part in reversed(first_parts(job.part)):
                self.add_job(part, job.scope, False)

    def finish(self, job):
        values = self.pile[job.height:]
        self.pile = self.pile[:job.height]
        if job.part[0] not in NO_DEEDS:
            self.world.note(job.part[1])
        FINISHES[job.part[0]](self, job, values)

    def fault(self, word, value, place):
        while self.jobs:
            job = self.jobs.pop()
            # A try that has not begun waits its turn: its one is not being done.
            if job.part[0] == "try" and job.height is not None and job.part[3] == word:
                self.catch(job, value)
                return
        raise Ended(("fault", word, shown_of(value), place))

    def catch(self, job, value):
        self.pile = self.pile[:job.height]
        self.world.drop_to(job.calls)
        self.add_job(job.part[5], scope_with(job.scope, (job.part[4],), (value,)), job.last)


def run_source(program, inputs, most=1000):
    return run_of(SourceRun(checked_program(program), World(inputs, most)))

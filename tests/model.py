"""How a program is run, told once more for the tests: by Python's own calls, exceptions and dicts."""

import sys


class Fault(Exception):
    pass


class End(Exception):
    pass


class Fn:
    def __init__(self, part, env):
        self.part, self.env = part, env


class Again:
    """A call in last place, which whoever called does in the place of the body."""

    def __init__(self, fn, args):
        self.fn, self.args = fn, args


def shown(value, within=False):
    if isinstance(value, Fn):
        return ("fn", value.part[1])
    if isinstance(value, list):
        tag, fields = value
        return ("block", tag) if within else ("block", tag, tuple([shown(field, True) for field in fields]))
    return value


class Model:
    def __init__(self, inputs, most):
        self.inputs, self.most = list(inputs), most
        self.log, self.deeds, self.calls, self.deepest = [], [], 0, 0

    def run(self, program):
        try:
            return ("value", shown(self.body(program, {})))
        except Fault as fault:
            word, value, place = fault.args
            return ("fault", word, shown(value), place)
        except End as end:
            return end.args[0]

    def body(self, part, env):
        value = self.do(part, env, True)
        while isinstance(value, Again):
            inside = dict(value.fn.env)
            inside.update({name: [arg] for name, arg in zip(value.fn.part[2], value.args)})
            value = self.do(value.fn.part[3], inside, True)
        return value

    def note(self, part):
        if len(self.deeds) == self.most:
            raise End(("dry",))
        self.deeds.append(part[1])

    def number(self, value, part):
        if not isinstance(value, int):
            raise Fault("kind", 0, part[1])
        return value

    def do(self, part, env, last):
        return getattr(self, "do_" + part[0])(part, env, last)

    def do_number(self, part, env, last):
        return part[2]

    def do_name(self, part, env, last):
        return env[part[2]][0]

    def do_let(self, part, env, last):
        return self.do(part[4], {**env, part[2]: [self.do(part[3], env, False)]}, last)

    def do_do(self, part, env, last):
        self.do(part[2], env, False)
        return self.do(part[3], env, last)

    def do_fn(self, part, env, last):
        self.note(part)
        return Fn(part, env)

    def do_call(self, part, env, last):
        fn, *args = [self.do(one, env, False) for one in (part[2],) + part[3]]
        self.note(part)
        if not isinstance(fn, Fn):
            raise Fault("kind", 0, part[1])
        if len(args) != len(fn.part[2]):
            raise Fault("odd", 0, part[1])
        if last:
            return Again(fn, args)
        if self.calls == 50:
            raise End(("deep", part[1]))
        self.calls += 1
        self.deepest = max(self.deepest, self.calls)
        value = self.body(fn.part[3], {**fn.env, **{name: [arg] for name, arg in zip(fn.part[2], args)}})
        self.calls -= 1
        return value

    def do_set(self, part, env, last):
        value = self.do(part[3], env, False)
        self.note(part)
        env[part[2]][0] = value
        return value

    def do_if(self, part, env, last):
        value = self.do(part[2], env, False)
        self.note(part)
        return self.do(part[3] if self.number(value, part) else part[4], env, last)

    def do_math(self, part, env, last):
        one, other = self.do(part[3], env, False), self.do(part[4], env, False)
        self.note(part)
        self.number(one, part)
        self.number(other, part)
        told = {"add": one + other, "sub": one - other, "mul": one * other,
                "less": int(one < other), "same": int(one == other)}[part[2]]
        if not -10 ** 40 < told < 10 ** 40:
            raise Fault("big", 0, part[1])
        return told

    def do_make(self, part, env, last):
        fields = [self.do(one, env, False) for one in part[3]]
        self.note(part)
        return [part[2], fields]

    def do_match(self, part, env, last):
        kind, place, one, tag, names, yes, no = part
        value = self.do(one, env, False)
        self.note(part)
        if isinstance(value, list) and value[0] == tag and len(value[1]) == len(names):
            return self.do(yes, {**env, **{name: [field] for name, field in zip(names, value[1])}}, last)
        return self.do(no, env, last)

    def do_raise(self, part, env, last):
        value = self.do(part[3], env, False)
        self.note(part)
        raise Fault(part[2], value, part[1])

    def do_try(self, part, env, last):
        calls = self.calls
        try:
            return self.do(part[2], env, False)
        except Fault as fault:
            word, value, place = fault.args
            if word != part[3]:
                raise
        self.calls = calls
        return self.do(part[5], {**env, part[4]: [value]}, last)

    def do_tell(self, part, env, last):
        value = self.do(part[2], env, False)
        self.note(part)
        self.log.append(self.number(value, part))
        return value

    def do_ask(self, part, env, last):
        self.note(part)
        return self.inputs.pop(0) if self.inputs else 0


def model_run(program, inputs, most=1000):
    model = Model(inputs, most)
    limit = sys.getrecursionlimit()
    # The package must do without more of Python's calls, so these are for the model alone.
    sys.setrecursionlimit(100000)
    try:
        end = model.run(program)
    finally:
        sys.setrecursionlimit(limit)
    return (end, model.log, model.deeds, model.deepest)

"""A program named: each value between that is not a written number gets a name."""

from spacewright.parts import checked_program, form_of, parts_ahead, told_anew


# A binding is told by the place of the part that makes it, and the name as it is written: the dict has just those
# that some set part means.
def set_bindings(program):
    found = {}
    find_sets(program, {}, found)
    return found


# The scope tells for each name that is there the place of the part that binds it.
def find_sets(part, scope, found):
    if part[0] == "set":
        found[(scope[part[2]], part[2])] = True
    for index, sort in enumerate(form_of(part[0]), start=2):
        grown = dict(scope)
        for name in told_anew(part, index):
            grown[name] = part[1]
        if sort == "part":
            find_sets(part[index], grown, found)
        elif sort == "parts":
            for one in part[index]:
                find_sets(one, grown, found)


# In a scope a name stands for a tuple of an atom and whether its binding is set.
class Namer:
    def __init__(self, program):
        self.set_ones = set_bindings(program)
        self.places = []

    def new_name(self, place):
        self.places.append(place)
        return len(self.places) - 1

    def body_of(self, part, scope, last):
        steps = []
        atom = self.atom_of(part, scope, last, steps)
        return (tuple(steps), atom)

    # Puts the steps of the part behind those that are there, and tells its atom.
    def atom_of(self, part, scope, last, steps):
        kind = part[0]
        if kind == "number":
            return ("number", part[2])
        if kind == "name":
            return self.atom_of_name(part, scope, steps)
        if kind == "do":
            self.atom_of(part[2], scope, False, steps)
            return self.atom_of(part[3], scope, last, steps)
        if kind == "let":
            return self.atom_of_let(part, scope, last, steps)
        atoms = tuple([self.atom_of(one, scope, False, steps) for one in parts_ahead(part)])
        if kind in ("fn", "if", "match", "try"):
            word, more = self.outer_step(part, atoms, scope, last)
        else:
            word, more = plain_step(part, atoms, scope, last)
        to = self.new_name(part[1])
        steps.append((word, to) + more)
        return ("name", to)

    def atom_of_name(self, part, scope, steps):
        atom, is_set = scope[part[2]]
        if not is_set:
            return atom
        to = self.new_name(part[1])
        steps.append(("read", to, atom[1]))
        return ("name", to)

    def atom_of_let(self, part, scope, last, steps):
        kind, place, name, one, other = part
        atom = self.atom_of(one, scope, False, steps)
        is_set = (place, name) in self.set_ones
        if is_set:
            to = self.new_name(place)
            steps.append(("start", to, atom, place))
            atom = ("name", to)
        grown = dict(scope)
        grown[name] = (atom, is_set)
        return self.atom_of(other, grown, last, steps)

    # A step with bodies within, in two: its word, and what it has behind the name that it gives.
    def outer_step(self, part, atoms, scope, last):
        kind, place = part[:2]
        if kind == "fn":
            params, body = self.bound_body(part[2], part[3], place, scope, True)
            return ("func", (params, body, place))
        if kind == "if":
            bodies = tuple([self.body_of(one, scope, last) for one in part[3:]])
            return ("if", atoms + bodies + (place,))
        if kind == "match":
            names, yes = self.bound_body(part[4], part[5], place, scope, last)
            return ("match", atoms + (part[3], names, yes, self.body_of(part[6], scope, last), place))
        one = self.body_of(part[2], scope, False)
        names, other = self.bound_body((part[4],), part[5], place, scope, last)
        return ("try", (one, part[3], names[0], other, place))

    # The new names that are given at the beginning of a body, and the body.
    def bound_body(self, names, part, place, scope, last):
        grown = dict(scope)
        given = []
        for name in names:
            to = self.new_name(place)
            given.append(to)
            grown[name] = (("name", to), (place, name) in self.set_ones)
        return (tuple(given), self.body_of(part, grown, last))


# A step without bodies within, in two as that of outer_step.
def plain_step(part, atoms, scope, last):
    kind, place = part[:2]
    if kind == "call":
        return ("call", (atoms[0], atoms[1:], place, last))
    if kind == "make":
        return ("make", (part[2], atoms, place))
    if kind == "set":
        return ("set", (scope[part[2]][0][1],) + atoms + (place,))
    if kind in ("math", "raise"):
        return (kind, (part[2],) + atoms + (place,))
    return (kind, atoms + (place,))


def named(program):
    checked = checked_program(program)
    namer = Namer(checked)
    body = namer.body_of(checked, {}, True)
    return (body, tuple(namer.places))

"""A named program boxed: names that are set become boxes."""

from spacewright.bodies import bodies_in, inner, with_inner

WORDS = {"start": "box", "read": "load", "set": "store"}


def set_names(body):
    found = {}
    for names, within in bodies_in(body):
        for step in within[0]:
            if step[0] == "start":
                found[step[1]] = True
            elif step[0] in ("read", "set"):
                found[step[2]] = True
    return sorted(found)


class Boxer:
    def __init__(self, body, places):
        self.set_ones = set_names(body)
        self.places = list(places)

    def boxed_step(self, step):
        told = [self.boxed_body(names, body) for names, body in inner(step)]
        return with_inner((WORDS.get(step[0], step[0]),) + step[1:], told)

    # The names that are given at the beginning of a body, and the body.
    def boxed_body(self, names, body):
        given = []
        steps = []
        for name in names:
            if name in self.set_ones:
                new = self.new_name(name)
                given.append(new)
                steps.append(("box", name, ("name", new), self.places[name]))
            else:
                given.append(name)
        steps.extend([self.boxed_step(step) for step in body[0]])
        return (tuple(given), (tuple(steps), body[1]))

    # A name that stands for another one where that was given.
    def new_name(self, name):
        self.places.append(self.places[name])
        return len(self.places) - 1


def boxed(named):
    body, places = named
    boxer = Boxer(body, places)
    told = boxer.boxed_body((), body)
    return (told[1], tuple(boxer.places))

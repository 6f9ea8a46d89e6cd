"""The forms of bodies and steps, told once more for the tests: a table, and what can be asked by it."""

LAYOUTS = {
    "start": "to atom place", "read": "to name", "set": "to name atom place",
    "box": "to atom place", "load": "to name", "store": "to name atom place",
    "math": "to op atom atom place", "make": "to word atoms place", "tell": "to atom place", "ask": "to place",
    "raise": "to word atom place", "func": "to begun body place", "close": "to number names place",
    "call": "to atom atoms place last", "if": "to atom body body place",
    "match": "to atom word begun body body place", "try": "to body word first body place",
}
NO_DEEDS = ("start", "read", "box", "load", "try")


def n(number):
    return ("number", number)


def x(name):
    return ("name", name)


def body(*things):
    """The last of the things is the last atom, the others are the steps."""
    return (things[:-1], things[-1])


def sorts(step):
    """Tuples of a sort and a thing, for all that stands in a step behind its word."""
    layout = LAYOUTS[step[0]].split()
    assert len(layout) == len(step) - 1, step
    return list(zip(layout, step[1:]))


def bodies_of(step):
    """Tuples of the names that are given at a body's beginning, and the body."""
    found, names = [], ()
    for sort, thing in sorts(step):
        if sort == "begun":
            names = thing
        elif sort == "first":
            names = (thing,)
        elif sort == "body":
            found.append((names, thing))
            names = ()
    return found


def place_of(step):
    return dict(sorts(step)).get("place")


def atoms_of(step):
    found = []
    for sort, thing in sorts(step):
        if sort == "atom":
            found.append(thing)
        elif sort == "atoms":
            found.extend(thing)
        elif sort == "name":
            found.append(("name", thing))
        elif sort == "names":
            found.extend([("name", name) for name in thing])
    return found


def all_steps(body):
    """The steps of a body, also within inner bodies, each ahead of those within it."""
    found = []
    for step in body[0]:
        found.append(step)
        for names, within in bodies_of(step):
            found.extend(all_steps(within))
    return found


def all_given(body):
    found = []
    for step in all_steps(body):
        found.append(step[1])
        for names, within in bodies_of(step):
            found.extend(names)
    return found


def renamed(thing, sort, numbers):
    """A thing of a step, a step or a body, with other names."""
    if sort in ("to", "name", "first"):
        return numbers[thing]
    if sort in ("begun", "names"):
        return tuple([numbers[name] for name in thing])
    if sort == "atom":
        return ("name", numbers[thing[1]]) if thing[0] == "name" else thing
    if sort == "atoms":
        return tuple([renamed(atom, "atom", numbers) for atom in thing])
    if sort == "step":
        return (thing[0],) + tuple([renamed(one, each, numbers) for each, one in sorts(thing)])
    if sort == "body":
        steps = tuple([renamed(step, "step", numbers) for step in thing[0]])
        return (steps, renamed(thing[1], "atom", numbers))
    return thing


def canonical(body, places, order=None):
    """The same for bodies that are alike but for their names, which may be any things; places is asked by them."""
    numbers = {}
    for name in order if order is not None else all_given(body):
        numbers.setdefault(name, len(numbers))
    return (renamed(body, "body", numbers), [places[name] for name in numbers])


def check_well_made(case, body, there=()):
    """There are the names that are given round the body."""
    given = all_given(body) + list(there)
    case.assertEqual(len(set(given)), len(given))
    steps = all_steps(body)
    held = {step[1]: True for step in steps if step[0] in ("start", "box")}
    check_body(case, body, there, held, True)


def check_body(case, body, there, held, last):
    steps, atom = body
    for at, step in enumerate(steps):
        things = sorts(step)
        for one in atoms_of(step):
            case.assertTrue(one[0] == "number" or one[1] in there, (step, there))
        if step[0] in ("start", "box", "math", "make", "tell", "raise", "call", "if", "match"):
            case.assertFalse([one for one in atoms_of(step) if one[0] == "name" and one[1] in held], step)
        if step[0] in ("set", "store"):
            case.assertFalse(step[3][0] == "name" and step[3][1] in held, step)
        stands_last = last and at == len(steps) - 1 and atom == ("name", step[1])
        if step[0] == "call":
            case.assertIs(type(step[5]), bool)
            case.assertTrue(stands_last or not step[5], step)
        for number, (names, within) in enumerate(bodies_of(step)):
            inside = step[0] == "func" or (stands_last and (step[0] != "try" or number == 1))
            check_body(case, within, tuple(there) + tuple(names), held, inside)
        there = tuple(there) + (things[0][1],)
    case.assertTrue(atom[0] == "number" or (atom[1] in there and atom[1] not in held), atom)

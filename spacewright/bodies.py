"""Bodies and their steps: what a step uses, the bodies within it, and the names that a body gives and uses."""


def operands(step):
    word = step[0]
    if word in ("start", "box", "tell", "if", "match"):
        return [step[2]]
    if word in ("read", "load"):
        return [("name", step[2])]
    if word in ("set", "store"):
        return [("name", step[2]), step[3]]
    if word == "math":
        return [step[3], step[4]]
    if word == "make":
        return list(step[3])
    if word == "raise":
        return [step[3]]
    if word == "call":
        return [step[2]] + list(step[3])
    if word == "close":
        return [("name", name) for name in step[3]]
    return []


def inner(step):
    word = step[0]
    if word == "func":
        return [(step[2], step[3])]
    if word == "if":
        return [((), step[3]), ((), step[4])]
    if word == "match":
        return [(step[4], step[5]), ((), step[6])]
    if word == "try":
        return [((), step[2]), ((step[4],), step[5])]
    return []


# The step with other inner bodies, told in the form in which inner tells them.
def with_inner(step, told):
    word = step[0]
    if word == "func":
        return step[:2] + (told[0][0], told[0][1]) + step[4:]
    if word == "if":
        return step[:3] + (told[0][1], told[1][1]) + step[5:]
    if word == "match":
        return step[:4] + (told[0][0], told[0][1], told[1][1]) + step[7:]
    if word == "try":
        return step[:2] + (told[0][1], step[3], told[1][0][0], told[1][1]) + step[6:]
    return step


# The body and all those within it, each with the names that are given at its beginning.
def bodies_in(body):
    found = [((), body)]
    at = 0
    while at < len(found):
        steps = found[at][1][0]
        for step in steps:
            found.extend(inner(step))
        at = at + 1
    return found


def given_in(body):
    given = {}
    for names, within in bodies_in(body):
        for name in names:
            given[name] = True
        for step in within[0]:
            given[step[1]] = True
    return sorted(given)


def mentioned(body):
    uses = {}
    for names, within in bodies_in(body):
        atoms = [within[1]]
        for step in within[0]:
            atoms.extend(operands(step))
        for word, name in atoms:
            if word == "name":
                uses[name] = True
    return sorted(uses)


# For each step of a body, and for its end, the names that are used from there on to the body's end.
def rests_of(body):
    steps, last = body
    rests = [tuple(mentioned(((), last)))]
    for step in reversed(steps):
        uses = mentioned(((step,), last))
        rests.append(tuple(sorted(set(rests[-1]) | set(uses))))
    return tuple(reversed(rests))

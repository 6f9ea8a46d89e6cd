"""The names that are needed ahead of each step of a code, and behind it."""

from spacewright.bodies import inner, mentioned, rests_of


def needed(code):
    return [(path, ahead, behind) for path, step, ahead, behind in stands(code)]


# Tuples of a path, the step there, and the names needed ahead of it and behind it; a step ahead of those within it.
def stands(code):
    place, params, kept, body = code
    found = []
    add_stands(found, (), body, params + kept, ())
    return found


# There are the names that are there at the body's beginning; behind, there or not, those that are used by what stands
# behind the steps of the body, but in the body itself.
def add_stands(found, path, body, there, behind):
    rests = rests_of(body)
    for number, step in enumerate(body[0]):
        at = path + (number,)
        later = rests[number + 1] + behind
        found.append((at, step, both(there, rests[number] + behind), both(there, later)))
        for which, told in enumerate(inner(step)):
            names, within = told
            add_stands(found, at + (which,), within, there + names, later + used_if_caught(step, which))
        there = there + (step[1],)


# While the one of a try is being done, a fault may lead to its other.
def used_if_caught(step, which):
    if step[0] == "try" and which == 0:
        return tuple(mentioned(step[5]))
    return ()


def both(there, uses):
    return tuple(sorted(set(there) & set(uses)))

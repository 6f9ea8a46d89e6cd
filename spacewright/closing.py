"""A boxed program closed: functions become codes that keep just the names they need."""

from spacewright.bodies import bodies_in, given_in, inner, mentioned, with_inner


def free_names(body):
    return tuple(sorted(set(mentioned(body)) - set(given_in(body))))


# By rising places.
def func_steps(body):
    found = []
    for names, within in bodies_in(body):
        found.extend([step for step in within[0] if step[0] == "func"])
    return sorted(found, key=lambda step: step[4])


def kept_names(func):
    params, body = func[2:4]
    return tuple([name for name in free_names(body) if name not in params])


# The closes are told by the names that the func steps give, each with the number and the kept names of its code.
def closed_body(body, closes):
    steps = [closed_step(step, closes) for step in body[0]]
    return (tuple(steps), body[1])


def closed_step(step, closes):
    if step[0] == "func":
        number, kept = closes[step[1]]
        return ("close", step[1], number, kept, step[4])
    told = [(names, closed_body(body, closes)) for names, body in inner(step)]
    return with_inner(step, told)


def closed(boxed):
    body, places = boxed
    funcs = func_steps(body)
    closes = {}
    for number, func in enumerate(funcs, start=1):
        closes[func[1]] = (number, kept_names(func))
    codes = [(0, (), (), closed_body(body, closes))]
    for func in funcs:
        word, to, params, inside, place = func
        codes.append((place, params, closes[to][1], closed_body(inside, closes)))
    return (tuple(codes), places)

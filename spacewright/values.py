"""The values of a run, how they are shown, and the reckoning."""


class Block:
    def __init__(self, tag, fields):
        self.tag = tag
        self.fields = tuple(fields)


class Function:
    def __init__(self, place):
        self.place = place


def is_number(thing):
    return isinstance(thing, int) and not isinstance(thing, bool)


def shown_of(value):
    if isinstance(value, Block):
        return ("block", value.tag, tuple([shown_within(field) for field in value.fields]))
    return shown_within(value)


# A block within a block is shown without its fields, so that showing never goes deeper than this.
def shown_within(value):
    if isinstance(value, Block):
        return ("block", value.tag)
    if isinstance(value, Function):
        return ("fn", value.place)
    return value


def math_of(op, one, other):
    if not (is_number(one) and is_number(other)):
        return ("kind", 0)
    number = reckoned(op, one, other)
    if abs(number) >= 10 ** 40:
        return ("big", 0)
    return (None, number)


def reckoned(op, one, other):
    if op == "add":
        return one + other
    if op == "sub":
        return one - other
    if op == "mul":
        return one * other
    if op == "less":
        return 1 if one < other else 0
    return 1 if one == other else 0


# The fields that a match of this tag and of so many names takes out of the value; None where it takes none.
def matched_fields(value, tag, many):
    if isinstance(value, Block) and value.tag == tag and len(value.fields) == many:
        return value.fields
    return None


# The word of the fault that a call comes to ahead of the body, or None. The functions of a run have params.
def call_fault(value, many):
    if not isinstance(value, Function):
        return "kind"
    return None if len(value.params) == many else "odd"

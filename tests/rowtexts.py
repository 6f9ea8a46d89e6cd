"""How a text of rows is read, told once more for the tests, by patterns."""

import re

FIGURES = r"(?:0|[1-9][0-9]{0,11})"
SLOT = "s" + FIGURES
OPERAND = f"(?:{SLOT}|0|-?[1-9][0-9]{{0,11}})"
WORD = "[a-z]{1,8}"


def bracketed(one):
    return rf"\[(?:{one}(?: {one})*)?\]"


SORTS = {
    "to": SLOT, "o": OPERAND, "os": bracketed(OPERAND), "ks": bracketed(OPERAND), "ss": bracketed(SLOT),
    "live": bracketed(SLOT), "p": FIGURES, "row": FIGURES, "code": FIGURES, "w": WORD, "op": "add|sub|mul|less|same",
}
LAYOUTS = {
    "move": "to o", "math": "to op o o p", "tell": "to o p", "ask": "to p", "load": "to to", "store": "to to o p",
    "make": "to w os p live", "close": "to code ks p live", "box": "to o p live", "call": "to o os p live",
    "last": "o os p", "back": "o", "test": "o row p", "match": "o w ss row p", "jump": "row", "guard": "w to row",
    "unguard": "", "raise": "w o p",
}


class Bad(Exception):
    """Of the number of the line that can't stand."""


def read_model(text):
    if not isinstance(text, str) or len(text) > 60000:
        raise Bad(0)
    lines = re.split("\n", text)
    many = 0
    while many < len(lines) and re.match("code( |$)", lines[many]):
        many += 1
    codes, rows, count = [], [], len(lines) - many
    for at, line in enumerate(lines):
        try:
            if at < many:
                codes.append(code_model(line, codes, count))
            else:
                rows.append(row_model(line, at - many, codes, count))
        except (AssertionError, AttributeError, IndexError):
            raise Bad(at) from None
    return (tuple(codes), tuple(rows))


def code_model(line, codes, count):
    found = re.fullmatch(f"code ({FIGURES}) ({FIGURES}) ({FIGURES}) ({FIGURES}) ({FIGURES})", line)
    place, params, kept, slots, entry = [int(one) for one in found.groups()]
    assert place < 600 and params < 301 and kept < 301 and params + kept <= slots < 601 and entry < count
    assert entry > codes[-1][4] if codes else (place, params, kept, entry) == (0, 0, 0, 0)
    return (place, params, kept, slots, entry)


def row_model(line, number, codes, count):
    assert codes
    own = [at for at in range(len(codes)) if codes[at][4] <= number][-1]
    first, end = codes[own][4], (codes + [(0, 0, 0, 0, count)])[own + 1][4]
    word = line.partition(" ")[0]
    assert word in LAYOUTS and (word == "back" or number != end - 1)
    sorts = LAYOUTS[word].split()
    found = re.fullmatch(" ".join([word] + [f"({SORTS[sort]})" for sort in sorts]), line)
    row = [word]
    for sort, one in zip(sorts, found.groups()):
        row.append(thing_model(sort, one, codes[own][3], first, end))
        if sort == "code":
            assert row[-1] < len(codes)
        if sort == "ks":
            assert len(row[-1]) == codes[row[2]][2]
    return tuple(row)


def thing_model(sort, text, slots, first, end):
    if sort in ("w", "op"):
        return text
    if sort in ("p", "row", "code"):
        assert sort != "p" or int(text) < 600
        assert sort != "row" or first <= int(text) < end
        return int(text)
    parts = [("slot", int(one[1:])) if one[0] == "s" else ("number", int(one)) for one in text.strip("[]").split()]
    assert all([one[1] < slots for one in parts if one[0] == "slot"])
    if sort in ("os", "ks"):
        assert sort == "ks" or len(parts) < 5
        return tuple(parts)
    if sort in ("ss", "live"):
        numbers = [one[1] for one in parts]
        assert len(set(numbers)) == len(numbers) and (numbers == sorted(numbers) if sort == "live" else len(numbers) < 5)
        return tuple(numbers)
    return parts[0] if sort == "o" else parts[0][1]

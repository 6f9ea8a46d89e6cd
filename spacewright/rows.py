"""Programs of rows written as texts, and texts read as programs of rows."""

from spacewright.errors import NoRow
from spacewright.parts import MOST_IN_ROW, OPS, is_place, is_word, plain
from spacewright.reading import MOST_FIGURES, is_number_word

MOST_SIGNS = 60000
MOST_NAMES = 300
MOST_SLOTS = 600

# What a row has behind its word. Kept are the operands of a close, as many as its code keeps.
FORMS = {
    "move": ("slot", "operand"),
    "math": ("slot", "op", "operand", "operand", "place"),
    "tell": ("slot", "operand", "place"),
    "ask": ("slot", "place"),
    "load": ("slot", "slot"),
    "store": ("slot", "slot", "operand", "place"),
    "make": ("slot", "word", "operands", "place", "live"),
    "close": ("slot", "code", "kept", "place", "live"),
    "box": ("slot", "operand", "place", "live"),
    "call": ("slot", "operand", "operands", "place", "live"),
    "last": ("operand", "operands", "place"),
    "back": ("operand",),
    "test": ("operand", "row", "place"),
    "match": ("operand", "word", "slots", "row", "place"),
    "jump": ("row",),
    "guard": ("word", "slot", "row"),
    "unguard": (),
    "raise": ("word", "operand", "place"),
}


# None for a word that no row begins with.
def row_form(word):
    return FORMS.get(word)


def rows_text(program):
    codes, rows = program
    lines = [" ".join(["code"] + [str(number) for number in code]) for code in codes]
    lines.extend([line_of(row) for row in rows])
    return "\n".join(lines)


def line_of(row):
    things = [text_of(sort, thing) for sort, thing in zip(row_form(row[0]), row[1:])]
    return " ".join([row[0]] + things)


def text_of(sort, thing):
    if sort == "slot":
        return slot_text(thing)
    if sort == "operand":
        return operand_text(thing)
    if sort in ("slots", "live"):
        return in_brackets([slot_text(slot) for slot in thing])
    if sort in ("operands", "kept"):
        return in_brackets([operand_text(operand) for operand in thing])
    return str(thing)


def slot_text(slot):
    return f"s{slot}"


def operand_text(operand):
    return slot_text(operand[1]) if operand[0] == "slot" else str(operand[1])


def in_brackets(words):
    return "[" + " ".join(words) + "]"


def read_rows(text):
    if not isinstance(text, str):
        raise NoRow(0)
    signs = plain(text)
    if len(signs) > MOST_SIGNS:
        raise NoRow(0)
    lines = signs.split("\n")
    many = codes_ahead(lines)
    if many == 0:
        raise NoRow(0)
    codes = read_codes(lines[:many], len(lines) - many)
    rows = []
    for code, end in zip(codes, ends_of(codes, len(lines) - many)):
        rows.extend(read_rows_of(code, end, codes, lines))
    return (tuple(codes), tuple(rows))


def codes_ahead(lines):
    many = 0
    while many < len(lines) and lines[many].split(" ")[0] == "code":
        many = many + 1
    return many


# For each code the number of the first row behind its own.
def ends_of(codes, many):
    return [code[4] for code in codes[1:]] + [many]


def read_codes(lines, many):
    codes = []
    for number, line in enumerate(lines):
        words = line.split(" ")[1:]
        if len(words) != 5 or not all([is_figures(word) for word in words]):
            raise NoRow(number)
        code = tuple([int(word) for word in words])
        if not can_follow(code, codes, many):
            raise NoRow(number)
        codes.append(code)
    return codes


# Whether the code can stand behind these, where there are so many rows.
def can_follow(code, codes, many):
    place, params, kept, slots, entry = code
    if not codes and code[:3] + code[4:] != (0, 0, 0, 0):
        return False
    if codes and entry <= codes[-1][4]:
        return False
    if params > MOST_NAMES or kept > MOST_NAMES:
        return False
    return is_place(place) and params + kept <= slots <= MOST_SLOTS and entry < many


def is_figures(word):
    return is_number_word(word, MOST_FIGURES) and not word.startswith("-")


def read_rows_of(code, end, codes, lines):
    rows = []
    for number in range(code[4], end):
        at = len(codes) + number
        row = RowReader(lines[at], at, codes, code, end).read_row()
        if number == end - 1 and row[0] != "back":
            raise NoRow(at)
        rows.append(row)
    return rows


# Takes the words of one row's line from left to right; own is the code whose row it is, end the first row behind it.
class RowReader:
    def __init__(self, line, number, codes, own, end):
        self.words = line.split(" ")
        self.number = number
        self.codes = codes
        self.own = own
        self.end = end
        self.at = 0

    def need(self, holds):
        if not holds:
            raise NoRow(self.number)

    def take(self):
        self.need(self.at < len(self.words))
        self.at = self.at + 1
        return self.words[self.at - 1]

    def read_row(self):
        row = [self.take()]
        form = row_form(row[0])
        self.need(form is not None)
        for sort in form:
            row.append(self.read_thing(sort))
            # How many operands a close has hangs on its code, which stands ahead of them.
            self.need(sort != "kept" or len(row[3]) == self.codes[row[2]][2])
        self.need(self.at == len(self.words))
        return tuple(row)

    def read_thing(self, sort):
        if sort in ("operands", "kept"):
            return self.read_operands(sort)
        if sort in ("slots", "live"):
            return self.read_slots(sort)
        word = self.take()
        if sort == "slot":
            return self.slot_in(word)
        if sort == "operand":
            return self.operand_in(word)
        if sort in ("word", "op"):
            self.need(is_word(word) if sort == "word" else word in OPS)
            return word
        return self.number_in(sort, word)

    def number_in(self, sort, word):
        self.need(is_figures(word))
        number = int(word)
        if sort == "place":
            self.need(is_place(number))
        elif sort == "row":
            self.need(self.own[4] <= number < self.end)
        else:
            self.need(number < len(self.codes))
        return number

    def slot_in(self, word):
        self.need(word.startswith("s") and is_figures(word[1:]))
        slot = int(word[1:])
        self.need(slot < self.own[3])
        return slot

    def operand_in(self, word):
        if word.startswith("s"):
            return ("slot", self.slot_in(word))
        self.need(is_number_word(word, MOST_FIGURES))
        return ("number", int(word))

    def read_operands(self, sort):
        words = self.take_bracketed()
        self.need(sort == "kept" or len(words) <= MOST_IN_ROW)
        return tuple([self.operand_in(word) for word in words])

    def read_slots(self, sort):
        words = self.take_bracketed()
        slots = tuple([self.slot_in(word) for word in words])
        if sort == "live":
            self.need(slots == tuple(sorted(set(slots))))
        else:
            self.need(len(slots) <= MOST_IN_ROW and len(set(slots)) == len(slots))
        return slots

    def take_bracketed(self):
        words = [self.take()]
        while not words[-1].endswith("]"):
            words.append(self.take())
        text = " ".join(words)
        self.need(text.startswith("["))
        return text[1:-1].split(" ") if text != "[]" else []

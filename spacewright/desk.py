"""A desk: it is told lines, and answers each with a text."""

from spacewright.chain import LANGUAGES, WITH_ROOM, Chain
from spacewright.errors import BadText, NoName
from spacewright.parts import plain
from spacewright.reading import is_number_word
from spacewright.rows import in_brackets
from spacewright.values import is_number

MOST_FIGURES = 30
MOST_INPUTS = 20
MOST_OF = {"bound": 2000, "room": 400, "every": 50}

OK = "ok"
NONE = "none"
NO_LINE = "no line"
NO_PROGRAM = "no program"


def is_number_told(word):
    return is_number_word(word, MOST_FIGURES)


def numbers_text(numbers):
    return " ".join([str(number) for number in numbers])


def value_text(shown):
    if is_number(shown):
        return str(shown)
    if shown[0] == "fn":
        place = shown[1]
        return f"fn@{place}"
    # A block within a block is shown without its fields.
    fields = shown[2] if len(shown) == 3 else ()
    return in_brackets([shown[1]] + [value_text(field) for field in fields])


def end_text(end):
    if end[0] == "value":
        return " ".join(["value", value_text(end[1])])
    if end[0] == "fault":
        return " ".join(["fault", end[1], value_text(end[2]), str(end[3])])
    return " ".join([end[0]] + [str(place) for place in end[1:]])


def run_text(told):
    end, log, deeds, deepest = told
    words = [end_text(end), "deeds", str(len(deeds)), "calls", str(deepest), "log"]
    return " ".join(words + [str(number) for number in log])


class Desk:
    def __init__(self):
        self.chain = None
        self.inputs = []
        self.most = 1000
        self.room = None
        self.every = 0

    def answer(self, line):
        head, blank, rest = plain(line).partition(" ")
        if head == "program" and blank == " ":
            return self.set_program(rest)
        words = rest.split(" ") if blank == " " else []
        if head == "inputs":
            return self.set_inputs(words)
        if len(words) != 1:
            return NO_LINE
        if head in MOST_OF:
            return self.set_number(head, words[0])
        if head == "full" and words[0] in WITH_ROOM:
            return self.full_answer(words[0])
        if head in ("run", "deeds") and words[0] in LANGUAGES:
            return self.run_answer(head, words[0])
        return NO_LINE

    def set_program(self, text):
        try:
            self.chain = Chain(text)
        except BadText as error:
            place = error.place
            return f"bad text {place}"
        except NoName as error:
            place = error.place
            return f"no name {place}"
        return OK

    def set_inputs(self, words):
        if len(words) > MOST_INPUTS or not all([is_number_told(word) for word in words]):
            return NO_LINE
        self.inputs = [int(word) for word in words]
        return OK

    def set_number(self, head, word):
        if head == "room" and word == NONE:
            self.room = None
            return OK
        if not is_number_told(word) or not 0 <= int(word) <= MOST_OF[head]:
            return NO_LINE
        if head == "bound":
            self.most = int(word)
        elif head == "room":
            self.room = int(word)
        else:
            self.every = int(word)
        return OK

    def full_answer(self, language):
        if self.chain is None:
            return NO_PROGRAM
        told = self.chain.full(language, self.inputs, self.most, self.room, self.every)
        return NONE if told is None else numbers_text(told)

    def run_answer(self, head, language):
        if self.chain is None:
            return NO_PROGRAM
        told = self.chain.run(language, self.inputs, self.most, self.room, self.every)
        if head == "run":
            return run_text(told)
        return numbers_text(told[2]) if told[2] else NONE

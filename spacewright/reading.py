"""Programs written as texts, and texts read as programs."""

from spacewright.errors import BadText, NoName
from spacewright.parts import (
    HEADS, MOST_IN_ROW, MOST_WITHIN, OPS, checked_program, form_of, is_name, is_word, plain, told_anew,
)

MOST_SIGNS = 600
MOST_FIGURES = 12
FIGURES = "0123456789"


def write_program(thing):
    return text_of(checked_program(thing))


def text_of(part):
    kind = part[0]
    if kind == "number":
        return str(part[2])
    if kind == "name":
        return part[2]
    # Math is written by its op, which stands first in its form.
    words = [] if kind == "math" else [kind]
    for sort, thing in zip(form_of(kind), part[2:]):
        words.extend(texts_of(sort, thing))
    return in_brackets(words)


def texts_of(sort, thing):
    if sort == "part":
        return [text_of(thing)]
    if sort == "parts":
        return [text_of(part) for part in thing]
    if sort == "names":
        return [in_brackets(thing)]
    return [thing]


def in_brackets(words):
    return "(" + " ".join(words) + ")"


def read_program(text):
    if not isinstance(text, str):
        raise BadText(0)
    signs = plain(text)
    if len(signs) > MOST_SIGNS:
        raise BadText(MOST_SIGNS)
    reader = Reader(signs)
    program = reader.read_part((), 0)
    reader.refuse_more()
    if reader.missing:
        raise NoName(reader.missing[0])
    return program


# Tuples of a place and a word.
def words_of(text):
    words = []
    goes_on = False
    for place, sign in enumerate(text):
        if sign == " ":
            goes_on = False
        elif sign in "()":
            words.append((place, sign))
            goes_on = False
        elif goes_on:
            begun, word = words.pop()
            words.append((begun, word + sign))
        else:
            words.append((place, sign))
            goes_on = True
    return words


# Whether the word is a number of at most so many figures.
def is_number_word(word, most):
    figures = word[1:] if word.startswith("-") else word
    if not 1 <= len(figures) <= most:
        return False
    if not all([sign in FIGURES for sign in figures]):
        return False
    return word == "0" or figures[0] != "0"


# Takes the words of a text from left to right, each only where it can stand. A name that isn't there is no
# reason to stop, as a later word that can't stand goes first: its place is kept.
class Reader:
    def __init__(self, text):
        self.words = words_of(text)
        self.signs = len(text)
        self.at = 0
        self.missing = []

    def coming(self):
        if self.at == len(self.words):
            raise BadText(self.signs)
        return self.words[self.at]

    def take(self):
        word = self.coming()
        self.at = self.at + 1
        return word

    def take_bracket(self, bracket):
        place, word = self.take()
        if word != bracket:
            raise BadText(place)

    def refuse_more(self):
        if self.at < len(self.words):
            raise BadText(self.words[self.at][0])

    def read_part(self, there, within):
        place, word = self.coming()
        if word == "(" and within < MOST_WITHIN:
            return self.read_bracketed(there, within + 1)
        if is_number_word(word, MOST_FIGURES):
            self.take()
            return ("number", place, int(word))
        return ("name", place, self.read_used(there))

    def read_bracketed(self, there, within):
        place = self.take()[0]
        head_place, head = self.coming()
        if head not in HEADS:
            raise BadText(head_place)
        kind = "math" if head in OPS else head
        # The op of a math is read as the first thing of its form.
        if kind != "math":
            self.take()
        known = [kind, place]
        for sort in form_of(kind):
            scope = there + told_anew(known, len(known))
            known.append(self.read_thing(sort, scope, within))
        self.take_bracket(")")
        return tuple(known)

    def read_thing(self, sort, there, within):
        if sort == "part":
            return self.read_part(there, within)
        if sort == "parts":
            return self.read_parts(there, within)
        if sort == "names":
            return self.read_names()
        if sort == "used":
            return self.read_used(there)
        place, word = self.take()
        if not (is_name(word) if sort == "name" else is_word(word)):
            raise BadText(place)
        return word

    def read_used(self, there):
        place, word = self.take()
        if not is_name(word):
            raise BadText(place)
        if word not in there:
            self.missing.append(place)
        return word

    def read_parts(self, there, within):
        parts = []
        while len(parts) < MOST_IN_ROW and self.coming()[1] != ")":
            parts.append(self.read_part(there, within))
        return tuple(parts)

    def read_names(self):
        self.take_bracket("(")
        names = []
        while self.coming()[1] != ")":
            place, word = self.take()
            if not is_name(word) or word in names or len(names) == MOST_IN_ROW:
                raise BadText(place)
            names.append(word)
        self.take()
        return tuple(names)

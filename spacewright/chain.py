"""The whole chain: a text read, and the program of it in each of the five languages."""

from spacewright.boxing import boxed
from spacewright.closedrun import cells_of, full_closed, run_closed
from spacewright.closing import closed
from spacewright.errors import NoLine
from spacewright.machine import full_rows, run_rows
from spacewright.namedrun import run_named
from spacewright.naming import named
from spacewright.parts import plain
from spacewright.reading import read_program
from spacewright.rowing import rows_of
from spacewright.sourcerun import run_source

LANGUAGES = ("source", "named", "boxed", "closed", "rows")
WITH_ROOM = ("closed", "rows")


# Whatever thing stands in the place of the word.
def checked_word(thing, words):
    if not isinstance(thing, str) or plain(thing) not in words:
        raise NoLine()
    return plain(thing)


class Chain:
    def __init__(self, text):
        program = read_program(text)
        first = named(program)
        second = boxed(first)
        third = closed(second)
        self.programs = {"source": program, "named": first, "boxed": second, "closed": third, "rows": rows_of(third)}

    def told(self, word):
        return self.programs[checked_word(word, LANGUAGES)]

    def run(self, word, inputs, most=1000, room=None, every=0):
        language = checked_word(word, LANGUAGES)
        program = self.programs[language]
        if language == "source":
            return run_source(program, inputs, most)
        if language == "closed":
            return run_closed(program, inputs, most, room)
        if language == "rows":
            return run_rows(program, inputs, most, room, every)
        return run_named(program, inputs, most)

    def full(self, word, inputs, most, room, every=0):
        language = checked_word(word, WITH_ROOM)
        program = self.programs[language]
        if language == "rows":
            return full_rows(program, inputs, most, room, every)
        reached = full_closed(program, inputs, most, room)
        if reached is None:
            return None
        place, asked, frames, things = reached
        return (place, asked, cells_of(things))

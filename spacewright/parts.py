"""What a program is: the forms of its parts, its words, its scopes and its bounds."""

from spacewright.errors import NoPart
from spacewright.values import is_number

MOST_PARTS = 300
MOST_WITHIN = 20
MOST_IN_ROW = 4
LAST_PLACE = 599

LETTERS = "abcdefghijklmnopqrstuvwxyz"
OPS = ("add", "sub", "mul", "less", "same")
HEADS = (
    "fn", "call", "let", "set", "do", "if", "add", "sub", "mul", "less", "same",
    "make", "match", "raise", "try", "tell", "ask",
)

# What a part has behind its kind and its place. A used name must be there; a name is told anew by the part.
FORMS = {
    "number": ("number",),
    "name": ("used",),
    "fn": ("names", "part"),
    "call": ("part", "parts"),
    "let": ("name", "part", "part"),
    "set": ("used", "part"),
    "do": ("part", "part"),
    "if": ("part", "part", "part"),
    "math": ("op", "part", "part"),
    "make": ("word", "parts"),
    "match": ("part", "word", "names", "part", "part"),
    "raise": ("word", "part"),
    "try": ("part", "word", "name", "part"),
    "tell": ("part",),
    "ask": (),
}

# Where in the part the names stand that it tells anew, and where the part stands in which they are there.
SCOPES = {"fn": (2, 3), "let": (2, 4), "match": (4, 5), "try": (4, 5)}


# None for whatever is no kind, also for what no dict can be asked for.
def form_of(kind):
    return FORMS.get(kind) if isinstance(kind, str) else None


# The names that are new in the thing at this index of a part; the part may be known only so far as to there.
def told_anew(part, index):
    names_at, scope_at = SCOPES.get(part[0], (None, None))
    if index != scope_at:
        return ()
    names = part[names_at]
    return names if isinstance(names, tuple) else (names,)


# The parts that are done, from left to right, ahead of the deed of a part.
def parts_ahead(part):
    kind = part[0]
    if kind == "call":
        return (part[2],) + part[3]
    if kind == "math":
        return part[3:]
    if kind == "make":
        return part[3]
    if kind in ("set", "raise"):
        return (part[3],)
    if kind in ("if", "match", "tell"):
        return (part[2],)
    return ()


def is_word(thing):
    if not isinstance(thing, str) or not 1 <= len(thing) <= 8:
        return False
    return all([sign in LETTERS for sign in thing])


def is_name(thing):
    return is_word(thing) and thing not in HEADS


def is_place(thing):
    return is_number(thing) and 0 <= thing <= LAST_PLACE


def is_written_number(thing):
    return is_number(thing) and abs(thing) < 10 ** 12


# A class of its own may let a tuple, text or number be walked, compared or kept as it likes, or not at all;
# what it holds is safe to look at.
def plain(thing):
    if isinstance(thing, tuple):
        return () + thing
    if isinstance(thing, str):
        return "".join([thing])
    if is_number(thing):
        return int(thing)
    return thing


# Goes through one thing that may be a program, part by part, and refuses at the first fault: so neither depth
# nor parts that stand at several places can lead it further than the bounds of a program.
class Checker:
    def __init__(self):
        self.places = {}

    def check_part(self, thing, there, within):
        part = plain(thing)
        if not isinstance(part, tuple) or len(part) < 2:
            raise NoPart()
        known = [plain(part[0]), plain(part[1])]
        form = form_of(known[0])
        if form is None or len(part) != 2 + len(form):
            raise NoPart()
        self.check_place(known[1])
        if known[0] not in ("number", "name"):
            within = within + 1
        if within > MOST_WITHIN:
            raise NoPart()
        for sort, inner in zip(form, part[2:]):
            scope = there + told_anew(known, len(known))
            known.append(self.check_thing(sort, inner, scope, within))
        return tuple(known)

    def check_place(self, place):
        if not is_place(place) or place in self.places:
            raise NoPart()
        self.places[place] = True
        if len(self.places) > MOST_PARTS:
            raise NoPart()

    def check_thing(self, sort, thing, there, within):
        if sort == "part":
            return self.check_part(thing, there, within)
        if sort == "parts":
            return tuple([self.check_part(one, there, within) for one in checked_row(thing)])
        if sort == "names":
            return checked_names(thing)
        single = plain(thing)
        if not fits(sort, single, there):
            raise NoPart()
        return single


def checked_row(thing):
    row = plain(thing)
    if not isinstance(row, tuple) or len(row) > MOST_IN_ROW:
        raise NoPart()
    return row


def checked_names(thing):
    names = tuple([plain(one) for one in checked_row(thing)])
    if not all([is_name(name) for name in names]) or len(set(names)) < len(names):
        raise NoPart()
    return names


def fits(sort, thing, there):
    if sort == "number":
        return is_written_number(thing)
    if sort == "op":
        return is_word(thing) and thing in OPS
    if sort == "word":
        return is_word(thing)
    if sort == "used":
        return is_name(thing) and thing in there
    return is_name(thing)


# The program that any thing is, in tuples, texts and numbers of no class of their own; refuses with NoPart.
def checked_program(thing):
    return Checker().check_part(thing, (), 0)


def is_program(thing):
    try:
        checked_program(thing)
    except NoPart:
        return False
    return True

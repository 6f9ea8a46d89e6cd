"""The refusals: each has a class of its own straight under SpaceError."""


class SpaceError(ValueError):
    pass


class BadText(SpaceError):
    def __init__(self, place):
        self.place = place


class NoName(SpaceError):
    def __init__(self, place):
        self.place = place


class NoPart(SpaceError):
    pass


class NoRow(SpaceError):
    def __init__(self, row):
        self.row = row


class NoLine(SpaceError):
    pass


# Not a refusal of the asker's: the parts of a runner tell one another by it that the run has ended.
class Ended(SpaceError):
    def __init__(self, end):
        self.end = end

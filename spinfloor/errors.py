"""All refusals of the program."""


class FloorError(ValueError):
    pass


class BadTie(FloorError):
    pass


class BadTurns(FloorError):
    pass


class Parted(FloorError):
    pass


class NotFlat(FloorError):
    pass


class OddMarks(FloorError):
    pass


class TooRough(FloorError):
    pass


class TooMany(FloorError):
    pass


class TooWide(FloorError):
    pass


class BadOrder(FloorError):
    pass


class BadStrip(FloorError):
    pass


class BadDeed(FloorError):
    pass


# The next two are alike but share no class of their own: each refusal stands straight beneath FloorError.
class BadText(FloorError):
    def __init__(self, at):
        self.at = at


class NoLaying(FloorError):
    def __init__(self, at):
        self.at = at

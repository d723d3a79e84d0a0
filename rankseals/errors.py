"""The refusals of the program, one class for each."""


class SealError(ValueError):
    """What all refusals stand under."""


class Taken(SealError):
    """The name is there already."""


class NoPart(SealError):
    """There is no such part."""


class NoRank(SealError):
    """There is no rank of that number."""


class NoLeave(SealError):
    """There is no leave of that number that the deed could be done to."""


class NoRule(SealError):
    """There is no rule of that part and sum."""


class NoPaper(SealError):
    """There is no such paper."""


class NoHand(SealError):
    """There is no hand of that number that could be drawn back."""


class NoDeed(SealError):
    """There is no deed to undo."""


class BadDay(SealError):
    """The day lies before one that it must not lie before."""


class Twice(SealError):
    """The holder or the signer has a hand on the paper already."""


class BadRow(SealError):
    """A row of a sheet is not so written; its field tells which."""

    def __init__(self, row):
        self.row = row

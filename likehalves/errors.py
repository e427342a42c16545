"""The refusals: one class for each, all of them under HalfError, none under another."""


class HalfError(ValueError):
    pass


class NoFrame(HalfError):
    pass


class NoNumber(HalfError):
    pass


class NoPart(HalfError):
    pass


class NoSum(HalfError):
    pass


class NoMiss(HalfError):
    pass


class NoEven(HalfError):
    pass


class NoFrames(HalfError):
    pass


class NoText(HalfError):
    pass


class NoName(HalfError):
    pass


class NoRow(HalfError):
    pass

"""The refusals: one class for each, all straight under PileError."""


class PileError(ValueError):
    pass


class NoPiles(PileError):
    pass


class NotRound(PileError):
    pass


class NoMarks(PileError):
    pass


class NoNumber(PileError):
    pass


class NoNote(PileError):
    pass

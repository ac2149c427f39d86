"""The refusals: one class for each, all under MissError."""


class MissError(ValueError):
    pass


class NoNumber(MissError):
    pass


class NoMarks(MissError):
    pass


class NoKind(MissError):
    pass


class NoBend(MissError):
    pass


class NoAnswer(MissError):
    pass


class NoText(MissError):
    pass


class NoName(MissError):
    pass


class NoRow(MissError):
    pass

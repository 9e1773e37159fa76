"""The refusals: one class for each, all straight under TurnError."""


class TurnError(ValueError):
    pass


class NoTurn(TurnError):
    pass


class NoHanger(TurnError):
    pass


class TooMany(TurnError):
    pass


class NoJoint(TurnError):
    pass


class NoReach(TurnError):
    pass


class NoDeed(TurnError):
    pass


class NoName(TurnError):
    pass


class NoMark(TurnError):
    pass


class NoText(TurnError):
    pass


class NoLine(TurnError):
    pass


class NoKept(TurnError):
    pass

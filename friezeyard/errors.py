"""The refusals: one class for each, all straight under FloorError."""


class FloorError(ValueError):
    pass


class NoFloor(FloorError):
    pass


class NoLine(FloorError):
    pass


class Crossed(FloorError):
    def __init__(self, one, other):
        self.one = one
        self.other = other


class NotFull(FloorError):
    def __init__(self, line):
        self.line = line


class NoText(FloorError):
    pass


class NoCorner(FloorError):
    pass


class NoEar(FloorError):
    pass


class NoRow(FloorError):
    pass


class Fallen(FloorError):
    def __init__(self, corner):
        self.corner = corner


class NoBand(FloorError):
    pass


class TooMany(FloorError):
    pass


class NoQuotient(FloorError):
    pass


class NotAlike(FloorError):
    pass


class NoPlace(FloorError):
    pass


class NoDeed(FloorError):
    pass


class NoName(FloorError):
    pass


class NoTurn(FloorError):
    pass

"""The refusals: one class for each, all of them under LandError, none under another one."""


class LandError(ValueError):
    pass


class NoShape(LandError):
    pass


class NoTelling(LandError):
    pass


class NoTime(LandError):
    pass


class NoWatch(LandError):
    pass


class TooMany(LandError):
    pass


class NoTurn(LandError):
    pass


class Clash(LandError):
    pass


class NoText(LandError):
    def __init__(self, line):
        self.line = line


class NoRow(LandError):
    pass


class NoName(LandError):
    pass


class NoLand(LandError):
    pass

"""The refusals: all under one base, none of them under another one (point 3)."""


# An asker who cares only that something was refused takes this one.
class WhenceError(ValueError):
    pass


class NoWay(WhenceError):
    pass


class NoMark(WhenceError):
    pass


class NoName(WhenceError):
    pass


class NoColumn(WhenceError):
    pass


class NoRow(WhenceError):
    pass


class NoTable(WhenceError):
    pass


class NoFit(WhenceError):
    pass


class NoNumber(WhenceError):
    pass


class NoPlace(WhenceError):
    pass


class NoRule(WhenceError):
    pass


class NoAnswer(WhenceError):
    pass


class Twice(WhenceError):
    pass

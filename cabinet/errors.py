"""The refusals, by [2]: CabinetError and the eighteen classes below it."""

from cabinet.kinds import copied


class CabinetError(ValueError):
    pass


class TooGreat(CabinetError):
    pass


# Each class with a field hands the text alone to its base: else str would tell the field, too.


class BadText(CabinetError):
    def __init__(self, text, at=0):
        CabinetError.__init__(self, text)
        self.at = at


class BadPath(CabinetError):
    pass


class NoPlace(CabinetError):
    def __init__(self, text, at=0):
        CabinetError.__init__(self, text)
        self.at = at


class NoDeed(CabinetError):
    def __init__(self, text, number=0):
        CabinetError.__init__(self, text)
        self.number = number


class NoneFits(CabinetError):
    pass


class CantMove(CabinetError):
    def __init__(self, text, number=0):
        CabinetError.__init__(self, text)
        self.number = number


class NoBack(CabinetError):
    def __init__(self, text, number=0):
        CabinetError.__init__(self, text)
        self.number = number


class NoVersion(CabinetError):
    pass


class NoFit(CabinetError):
    def __init__(self, text, faults=None):
        CabinetError.__init__(self, text)
        # The paths within the pairs are lists, so copying the outer list alone would not do.
        self.faults = [] if faults is None else [copied(pair) for pair in faults]


class Stuck(CabinetError):
    def __init__(self, text, version=0, key=None):
        CabinetError.__init__(self, text)
        self.version = version
        self.key = key


class BadQuestion(CabinetError):
    pass


class NoKey(CabinetError):
    pass


class IsKept(CabinetError):
    pass


class NotKept(CabinetError):
    pass


class NoWayBack(CabinetError):
    pass


class NoStore(CabinetError):
    pass


class BadRow(CabinetError):
    pass

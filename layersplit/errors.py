"""The refusals: one class for each, all of them straight under SplitError."""


class SplitError(ValueError):
    pass


class NoHouse(SplitError):
    pass


class NoDeed(SplitError):
    pass


class NoWord(SplitError):
    pass


class Taken(SplitError):
    pass


class Unknown(SplitError):
    pass


class NoArms(SplitError):
    pass


class NoRule(SplitError):
    pass


class NoShuts(SplitError):
    pass


class NoNumber(SplitError):
    pass


class NoMarks(SplitError):
    pass


class Closed(SplitError):
    pass


class NoRoom(SplitError):
    pass


class NoRow(SplitError):
    pass


class BadRow(SplitError):
    def __init__(self, row):
        self.row = row

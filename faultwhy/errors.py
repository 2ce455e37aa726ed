"""The refusals of the program, one class for each."""


class FaultError(ValueError):
    pass


# Refusals of a row of a text. Each stands straight under the base, so that
# whoever takes one of them never takes another by chance.


class Unread(FaultError):
    def __init__(self, row):
        self.row = row


class Twice(FaultError):
    def __init__(self, row):
        self.row = row


class NoName(FaultError):
    def __init__(self, row):
        self.row = row


class Mismatch(FaultError):
    def __init__(self, row):
        self.row = row


class Taken(FaultError):
    def __init__(self, row):
        self.row = row


class TooBig(FaultError):
    def __init__(self, row):
        self.row = row


# Refusals of a work that is played.


class Ring(FaultError):
    def __init__(self, names):
        # A list of the error's own: later changes of the handed one don't reach it.
        self.names = list(names)


class TooGreat(FaultError):
    def __init__(self, part, turn):
        self.part = part
        self.turn = turn


# Refusals of the ways' fits and of the log.


class TooMany(FaultError):
    pass


class BadTurns(FaultError):
    pass


class NoPlace(FaultError):
    pass


class Shut(FaultError):
    pass


class BadValue(FaultError):
    pass


class AlreadyRead(FaultError):
    pass


class NotRead(FaultError):
    pass

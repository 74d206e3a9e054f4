"""The refusals of the program, one class for each."""


class SpanError(ValueError):
    pass


class Empty(SpanError):
    pass


class NoEnd(SpanError):
    pass


class Clash(SpanError):

    def __init__(self, place, one, other):
        self.place = place
        self.one = one
        self.other = other


class NoCount(SpanError):
    pass


class NoShare(SpanError):
    pass


class NoName(SpanError):
    pass


class NoMark(SpanError):
    pass


class NoDeed(SpanError):
    pass


class NoRule(SpanError):
    pass


class TooMuch(SpanError):
    pass


class NoText(SpanError):
    pass


class NoRow(SpanError):
    pass

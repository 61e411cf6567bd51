"""The refusals of the program, one class for each."""


class SpanError(ValueError):
    pass


class BadDeed(SpanError):
    pass


class BadAsk(SpanError):
    pass


class BadText(SpanError):
    pass


class NoDeed(SpanError):
    pass

"""The refusals, one class for each."""


class BenchError(ValueError):
    pass


class NoShare(BenchError):
    pass


class Taken(BenchError):
    pass


class TooMany(BenchError):
    pass


class NoName(BenchError):
    pass


class TooFew(BenchError):
    pass


class NoRow(BenchError):
    pass

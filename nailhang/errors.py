"""The refusals: each a class of its own under HangError."""


class HangError(ValueError):
    pass


class NoCord(HangError):
    pass


class NoNails(HangError):
    pass


class NoRule(HangError):
    pass


class NoText(HangError):
    pass


class NoMove(HangError):
    pass


class NoLine(HangError):
    pass


class NoName(HangError):
    pass


class NoNumber(HangError):
    pass


class TooMany(HangError):
    pass


class TooLong(HangError):
    pass

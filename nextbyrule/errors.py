"""The refusals: each has a class of its own, straight under RuleError."""


class RuleError(ValueError):
    pass


class NoNumber(RuleError):
    pass


class NoBy(RuleError):
    pass


class NoText(RuleError):
    pass


class TooFar(RuleError):
    pass


class TooLong(RuleError):
    pass


class TooBig(RuleError):
    pass


class NoRow(RuleError):
    pass


class NoName(RuleError):
    pass

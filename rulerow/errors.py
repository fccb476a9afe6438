"""The refusals, one class for each."""


class RuleError(ValueError):
    pass


class BadPrime(RuleError):
    pass


class BadRow(RuleError):
    pass


class BadRule(RuleError):
    pass


class BadPlace(RuleError):
    pass


class TooFew(RuleError):
    pass


class NoWay(RuleError):
    pass


class BadText(RuleError):
    pass

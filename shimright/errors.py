"""The refusals: one class for each, all under ShimError."""


class ShimError(ValueError):
    pass


class NoNumber(ShimError):
    pass


class NoChoice(ShimError):
    pass


class TooMany(ShimError):
    pass


class NoText(ShimError):
    pass


class NoName(ShimError):
    pass


class NoRow(ShimError):
    pass

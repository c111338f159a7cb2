"""The refusals of the program, one class each."""


class StreetError(ValueError):
    pass


class BadWishes(StreetError):
    pass


class TooMany(StreetError):
    pass


class BadTree(StreetError):
    pass


class BadPath(StreetError):
    pass


class BadStanding(StreetError):
    pass


class BadText(StreetError):
    pass

"""The refusals, one error class for each, and the check that most calls begin with."""


class OutOfRange(ValueError):
    pass


class TooMany(ValueError):
    pass


class NoSuchDay(ValueError):
    pass


class NoneFound(ValueError):
    pass


class NotRight(ValueError):
    pass


def within(number, low, high):
    if number < low or number > high:
        raise OutOfRange()
    return number

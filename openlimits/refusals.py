"""The refusals, one error class for each, and the checks that many calls share."""

from openlimits.dates import LAST_RECKONED_DAY


class OutOfRange(ValueError):
    pass


class TooMany(ValueError):
    pass


class NoSuchDay(ValueError):
    pass


class NoneFound(ValueError):
    pass


class NotRight(ValueError):
    pass


class NoLimit(ValueError):
    pass


class NoEnd(ValueError):
    pass


def within(number, low, high):
    if number < low or number > high:
        raise OutOfRange()
    return number


def reckoned(day):
    if day > LAST_RECKONED_DAY:
        raise NoEnd()
    return day

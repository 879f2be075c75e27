"""The calls that ask for dates alone, and the ranges of days and years that all calls share."""

from openlimits.dates import FIRST_YEAR, LAST_TOLD_DAY, LAST_TOLD_YEAR
from openlimits.dates import date_of, day_of, month_length, months_later, moon_sunday, weekday_of
from openlimits.refusals import NoSuchDay, reckoned, within

MOST_MONTHS = 1200


def told_day(number):
    return within(number, 0, LAST_TOLD_DAY)


# A second day is a told day itself, however far it might lie behind the first.
def told_day_behind(number, first, most):
    return within(told_day(number), first, first + most)


def told_year(number):
    return within(number, FIRST_YEAR, LAST_TOLD_YEAR)


def call_date(office, numbers):
    day = told_day(numbers[0])
    return list(date_of(day)) + [weekday_of(day)]


def call_day(office, numbers):
    year = told_year(numbers[0])
    month = within(numbers[1], 1, 12)
    date = within(numbers[2], 1, 31)
    if date > month_length(year, month):
        raise NoSuchDay()
    return [day_of(year, month, date)]


def call_easter(office, numbers):
    return [moon_sunday(told_year(numbers[0]))]


def call_months(office, numbers):
    day = told_day(numbers[0])
    return [reckoned(months_later(day, within(numbers[1], 0, MOST_MONTHS)))]


DAY_CALLS = {0: call_date, 1: call_day, 2: call_easter, 27: call_months}

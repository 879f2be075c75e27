"""Days by number: January 1, 2000 is day 0."""

FIRST_YEAR = 2000
LAST_TOLD_YEAR = 2399
LAST_TOLD_DAY = 146096
LAST_RECKONED_DAY = 182621
A_LEAP_YEAR = 2000
MONTH_LENGTHS = (31, 28, 31, 30, 31, 30, 31, 31, 30, 31, 30, 31)


def is_leap(year):
    return year % 400 == 0 or (year % 4 == 0 and year % 100 != 0)


def month_length(year, month):
    if month == 2 and is_leap(year):
        return 29
    return MONTH_LENGTHS[month - 1]


def year_start(year):
    since = year - FIRST_YEAR
    # The count of leap years is rounded up: 2000, the first year of all, is one.
    leaps = (since + 3) // 4 - (since + 99) // 100 + (since + 399) // 400
    return 365 * since + leaps


def day_of(year, month, date):
    day = year_start(year) + date - 1
    for earlier in range(1, month):
        day += month_length(year, earlier)
    return day


def year_of(day):
    # No year has more than 366 days, so the guess is never too late.
    year = FIRST_YEAR + day // 366
    while year_start(year + 1) <= day:
        year += 1
    return year


def date_of(day):
    year = year_of(day)
    left = day - year_start(year)
    month = 1
    while left >= month_length(year, month):
        left -= month_length(year, month)
        month += 1
    return (year, month, left + 1)


def months_later(day, count):
    told = date_of(day)
    months = 12 * told[0] + told[1] - 1 + count
    year = months // 12
    month = months % 12 + 1
    return day_of(year, month, min(told[2], month_length(year, month)))


def month_end(day):
    told = date_of(day)
    return day + month_length(told[0], told[1]) - told[2]


def weekday_of(day):
    # Day 0 is a Saturday.
    return (day + 5) % 7


def weekday_from(weekday, day):
    return day + (weekday - weekday_of(day)) % 7


# The letters are those of the document, so that the steps can be held beside it.
def moon_sunday(year):
    a = year % 19
    b = year // 100
    c = year % 100
    g = (b - (b + 8) // 25 + 1) // 3
    h = (19 * a + b + 15 - b // 4 - g) % 30
    l = (32 + 2 * (b % 4) + 2 * (c // 4) - h - c % 4) % 7
    m = (a + 11 * h + 22 * l) // 451
    s = h + l + 114 - 7 * m
    return day_of(year, s // 31, s % 31 + 1)

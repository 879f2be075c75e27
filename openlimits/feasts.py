"""When a feast falls. Each rule answers the day in a year, or None in a year that has no such day."""

from openlimits.dates import day_of, month_length, moon_sunday, weekday_from


class DateRule:
    def __init__(self, month, date):
        self.month = month
        self.date = date

    def falls(self, year):
        if self.date > month_length(year, self.month):
            return None
        return day_of(year, self.month, self.date)


class EasterRule:
    def __init__(self, behind):
        self.behind = behind

    def falls(self, year):
        return moon_sunday(year) + self.behind


class KthRule:
    def __init__(self, place, weekday, month):
        self.place = place
        self.weekday = weekday
        self.month = month

    def falls(self, year):
        day = weekday_from(self.weekday, day_of(year, self.month, 1)) + 7 * (self.place - 1)
        if day > day_of(year, self.month, month_length(year, self.month)):
            return None
        return day


class LastRule:
    def __init__(self, weekday, month):
        self.weekday = weekday
        self.month = month

    def falls(self, year):
        # A month's last seven days have each weekday once.
        return weekday_from(self.weekday, day_of(year, self.month, month_length(year, self.month) - 6))


class FromRule:
    def __init__(self, weekday, month, date):
        self.weekday = weekday
        self.begin = DateRule(month, date)

    def falls(self, year):
        day = self.begin.falls(year)
        if day is None:
            return None
        return weekday_from(self.weekday, day)


class Feast:
    def __init__(self, rule, moved, years):
        self.rule = rule
        self.moved = moved
        self.years = years

    def day_in(self, year):
        if self.years is not None and (year < self.years[0] or year > self.years[1]):
            return None
        return self.rule.falls(year)

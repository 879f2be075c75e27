"""A land's calendar: which days are closed, and the open days around a day."""

from openlimits.dates import FIRST_YEAR, weekday_of, year_of


class Calendar:
    def __init__(self):
        self.sentences = 0
        self.rest_weekdays = {}
        self.feasts = []
        self.shut_days = {}
        self.opened_days = {}
        # Kept by year, for one call may ask for hundreds of days of it; the sentences are all there by then.
        self.closings = {}
        # Kept by the day asked from, for one limit may pass hundreds of open days, and be begun on hundreds of days.
        self.next_opens = {}

    def is_rest(self, day):
        return weekday_of(day) in self.rest_weekdays

    def feast_days(self, year):
        found = []
        taken = {}
        for feast in self.feasts:
            day = feast.day_in(year)
            if day is not None:
                closing = self.moved_day(day, taken) if feast.moved else day
                taken[closing] = True
                found.append((day, closing))
        return found

    def moved_day(self, day, taken):
        while self.is_rest(day) or day in taken:
            day += 1
        return day

    def closed_for_feasts(self, year):
        if year not in self.closings:
            days = {}
            for pair in self.feast_days(year):
                days[pair[1]] = True
            self.closings[year] = days
        return self.closings[year]

    def is_closed(self, day):
        if day in self.opened_days:
            return False
        if self.is_rest(day) or day in self.shut_days:
            return True
        year = year_of(day)
        if day in self.closed_for_feasts(year):
            return True
        return year > FIRST_YEAR and day in self.closed_for_feasts(year - 1)

    def first_open_day(self, day):
        if day not in self.next_opens:
            found = day
            while self.is_closed(found):
                found += 1
            self.next_opens[day] = found
        return self.next_opens[day]

    # None where all days down to day 0 are closed.
    def last_open_day(self, day):
        while day >= 0 and self.is_closed(day):
            day -= 1
        return day if day >= 0 else None

    def kth_open_day(self, day, count):
        for step in range(count):
            day = self.first_open_day(day + 1)
        return day

    def count_open_days(self, first, last):
        return len([day for day in range(first, last + 1) if not self.is_closed(day)])

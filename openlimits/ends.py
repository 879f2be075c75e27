"""The end of a limit, begun on a day in a land. Where there is none, NoEnd is raised."""

from openlimits.dates import month_end, months_later
from openlimits.refusals import NoEnd, reckoned
from openlimits.stretches import made_good

DAYS_OF_UNIT = {"d": 1, "w": 7}
MONTHS_OF_UNIT = {"m": 1, "y": 12}


def end_of(steps, begin, land, stretches):
    days = []
    for step in steps:
        word = step[0]
        if word == "start":
            days.append(begin)
        elif word == "later":
            days.append(max(days.pop(), days.pop()))
        elif word == "earlier":
            days.append(min(days.pop(), days.pop()))
        elif word == "going":
            days.append(reckoned(going_day(days.pop(), begin, stretches)))
        else:
            days.append(reckoned(moved_on(days.pop(), word, step[1], land)))
    return days[0]


def end_or_none(steps, begin, land, stretches):
    try:
        return end_of(steps, begin, land, stretches)
    except NoEnd:
        return None


def going_day(day, begin, stretches):
    if day <= begin:
        return day
    return made_good(stretches, begin, day)


def moved_on(day, word, number, land):
    if word in DAYS_OF_UNIT:
        return day + DAYS_OF_UNIT[word] * number
    if word in MONTHS_OF_UNIT:
        return months_later(day, MONTHS_OF_UNIT[word] * number)
    if word == "o":
        return land.calendar.kth_open_day(day, number)
    if word == "receipt":
        return day + land.post
    if word == "open":
        return land.calendar.first_open_day(day)
    if word == "back":
        return open_day_up_to(day, land)
    return month_end(day)


def open_day_up_to(day, land):
    found = land.calendar.last_open_day(day)
    if found is None:
        raise NoEnd()
    return found

"""The calls on lands and their calendars."""

from openlimits.daycalls import told_day, told_day_behind, told_year
from openlimits.refusals import NoneFound, within
from openlimits.sentences import read_calendar
from openlimits.state import Land

LAST_LAND = 3
MOST_BACK = 720
MOST_AHEAD = 840
MOST_POST = 30
LONGEST_TEXT = 800


def told_land(office, number):
    return office.lands[within(number, 0, LAST_LAND)]


def told_text(codes, longest):
    within(len(codes), 0, longest)
    return [within(code, 0, 255) for code in codes]


def call_land(office, numbers):
    place = within(numbers[0], 0, LAST_LAND)
    ahead = within(numbers[1], -MOST_BACK, MOST_AHEAD)
    post = within(numbers[2], 0, MOST_POST)
    text = told_text(numbers[3:], LONGEST_TEXT)
    calendar = read_calendar(text)
    office.lands[place] = Land(ahead, post, text, calendar)
    return [calendar.sentences]


def call_landtext(office, numbers):
    land = told_land(office, numbers[0])
    return [land.ahead + MOST_BACK, land.post] + land.text


def call_closed(office, numbers):
    land = told_land(office, numbers[0])
    day = told_day(numbers[1])
    return [1 if land.calendar.is_closed(day) else 0]


def call_next(office, numbers):
    land = told_land(office, numbers[0])
    return [land.calendar.first_open_day(told_day(numbers[1]))]


def call_last(office, numbers):
    land = told_land(office, numbers[0])
    found = land.calendar.last_open_day(told_day(numbers[1]))
    if found is None:
        raise NoneFound()
    return [found]


def call_opens(office, numbers):
    land = told_land(office, numbers[0])
    first = told_day(numbers[1])
    last = told_day_behind(numbers[2], first, 400)
    return [land.calendar.count_open_days(first, last)]


def call_kth(office, numbers):
    land = told_land(office, numbers[0])
    day = told_day(numbers[1])
    return [land.calendar.kth_open_day(day, within(numbers[2], 1, 60))]


def call_feasts(office, numbers):
    land = told_land(office, numbers[0])
    pairs = land.calendar.feast_days(told_year(numbers[1]))
    answer = [len(pairs)]
    for pair in pairs:
        answer.extend(pair)
    return answer


LAND_CALLS = {
    3: call_land,
    4: call_landtext,
    5: call_closed,
    6: call_next,
    7: call_last,
    8: call_opens,
    9: call_kth,
    10: call_feasts,
}

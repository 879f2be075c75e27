"""The calls on limits and their ends."""

from openlimits.daycalls import told_day, told_day_behind
from openlimits.ends import end_of, end_or_none
from openlimits.landcalls import told_land, told_text
from openlimits.limits import read_limit
from openlimits.refusals import NoLimit, NoneFound, within
from openlimits.state import Limit

LAST_PLACE = 5
LONGEST_LIMIT = 100
FARTHEST_BACK = 200
MOST_COMPARED = 60


def told_place(number):
    return within(number, 0, LAST_PLACE)


# Asked only once all numbers of a call are in their ranges, for that refusal goes ahead of this one.
def limit_in(office, place):
    if place not in office.limits:
        raise NoLimit()
    return office.limits[place]


def steps_in(office, place):
    return limit_in(office, place).steps


def call_limit(office, numbers):
    place = told_place(numbers[0])
    text = told_text(numbers[1:], LONGEST_LIMIT)
    office.limits[place] = Limit(text, read_limit(text))
    return [0]


def call_limittext(office, numbers):
    return list(limit_in(office, told_place(numbers[0])).text)


def call_end(office, numbers):
    place = told_place(numbers[0])
    land = told_land(office, numbers[1])
    begin = told_day(numbers[2])
    return [end_of(steps_in(office, place), begin, land, office.stretches)]


def call_latest(office, numbers):
    place = told_place(numbers[0])
    land = told_land(office, numbers[1])
    last = told_day(numbers[2])
    steps = steps_in(office, place)
    # Day by day, for ends don't always rise with the day on which a limit is begun.
    for begin in range(last, max(0, last - FARTHEST_BACK) - 1, -1):
        end = end_or_none(steps, begin, land, office.stretches)
        if end is not None and end <= last:
            return [begin]
    raise NoneFound()


def call_same(office, numbers):
    for row in ends_of_both(office, numbers):
        if row[1] != row[2]:
            return [0, row[0]]
    return [1]


def call_never(office, numbers):
    for row in ends_of_both(office, numbers):
        if ends_later(row[1], row[2]):
            return [0, row[0]]
    return [1]


# Rows of a day and the ends of both limits begun on it, None for one that has no end.
def ends_of_both(office, numbers):
    places = [told_place(number) for number in numbers[:2]]
    land = told_land(office, numbers[2])
    first = told_day(numbers[3])
    last = told_day_behind(numbers[4], first, MOST_COMPARED)
    one = steps_in(office, places[0])
    other = steps_in(office, places[1])
    rows = []
    for begin in range(first, last + 1):
        end = end_or_none(one, begin, land, office.stretches)
        rows.append((begin, end, end_or_none(other, begin, land, office.stretches)))
    return rows


def ends_later(one, other):
    if one is None or other is None:
        return one is None and other is not None
    return one > other


def call_ends(office, numbers):
    place = told_place(numbers[0])
    begin = told_day(numbers[1])
    steps = steps_in(office, place)
    ends = [end_of(steps, begin, land, office.stretches) for land in office.lands]
    return ends + [ends.index(max(ends))]


LIMIT_CALLS = {
    15: call_limit,
    16: call_limittext,
    17: call_end,
    18: call_latest,
    19: call_same,
    20: call_never,
    26: call_ends,
}

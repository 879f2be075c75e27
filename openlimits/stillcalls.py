"""The calls on the stretches on which time stands still."""

from openlimits.dates import LAST_TOLD_DAY
from openlimits.daycalls import told_day, told_day_behind
from openlimits.refusals import TooMany
from openlimits.stretches import count_still, with_go, with_stop

MOST_STRETCHES = 12
LONGEST_CHANGE = 4000


def keep_stretches(office, stretches):
    if len(stretches) > MOST_STRETCHES:
        raise TooMany()
    office.stretches = stretches
    return [len(stretches)]


def call_stop(office, numbers):
    first = told_day(numbers[0])
    last = told_day_behind(numbers[1], first, LONGEST_CHANGE)
    return keep_stretches(office, with_stop(office.stretches, first, last))


def call_go(office, numbers):
    first = told_day(numbers[0])
    last = told_day_behind(numbers[1], first, LONGEST_CHANGE)
    return keep_stretches(office, with_go(office.stretches, first, last))


def call_stops(office, numbers):
    answer = [len(office.stretches)]
    for stretch in office.stretches:
        answer.extend(stretch)
    return answer


def call_still(office, numbers):
    first = told_day(numbers[0])
    last = told_day_behind(numbers[1], first, LAST_TOLD_DAY)
    return [count_still(office.stretches, first, last)]


STILL_CALLS = {11: call_stop, 12: call_go, 13: call_stops, 14: call_still}

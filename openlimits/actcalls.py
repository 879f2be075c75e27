"""The calls on acts, and on the clocks of the lands where they are handed in."""

from openlimits.daycalls import told_day
from openlimits.ends import end_or_none
from openlimits.landcalls import LAST_LAND, told_land
from openlimits.limitcalls import steps_in, told_place
from openlimits.refusals import TooMany, within
from openlimits.state import Act

LAST_KIND = 9
FIRST_MINUTE = 1440
LAST_MINUTE = 210378240
MOST_ACTS = 30
MINUTES_OF_DAY = 1440


def told_kind(number):
    return within(number, 0, LAST_KIND)


def told_minute(number):
    return within(number, FIRST_MINUTE, LAST_MINUTE)


def day_there(land, minute):
    return (minute + land.ahead) // MINUTES_OF_DAY


def call_act(office, numbers):
    kind = told_kind(numbers[0])
    place = within(numbers[1], 0, LAST_LAND)
    act = Act(kind, place, told_minute(numbers[2]))
    number = len(office.acts)
    if number >= MOST_ACTS:
        raise TooMany()
    office.acts.append(act)
    return [number]


def call_acts(office, numbers):
    answer = [len(office.acts)]
    for act in office.acts:
        answer.extend([act.kind, act.place, act.minute])
    return answer


def call_met(office, numbers):
    place = told_place(numbers[0])
    land_place = within(numbers[1], 0, LAST_LAND)
    begin = told_day(numbers[2])
    kind = told_kind(numbers[3])
    return first_in_time(office, steps_in(office, place), begin, kind, [land_place])


def call_anywhere(office, numbers):
    place = told_place(numbers[0])
    begin = told_day(numbers[1])
    kind = told_kind(numbers[2])
    return first_in_time(office, steps_in(office, place), begin, kind, list(range(LAST_LAND + 1)))


def first_in_time(office, steps, begin, kind, land_places):
    ends = {}
    for place in land_places:
        ends[place] = end_or_none(steps, begin, office.lands[place], office.stretches)
    for number in numbers_by_minute(office.acts):
        act = office.acts[number]
        if act.kind == kind and act.place in ends:
            day = day_there(office.lands[act.place], act.minute)
            if is_in_time(day, begin, ends[act.place]):
                return [1, number, day]
    return [0]


def numbers_by_minute(acts):
    return sorted(range(len(acts)), key=lambda number: (acts[number].minute, number))


def is_in_time(day, begin, end):
    return end is not None and begin <= day <= end


def call_clock(office, numbers):
    land = told_land(office, numbers[0])
    minute = told_minute(numbers[1])
    return [day_there(land, minute), (minute + land.ahead) % MINUTES_OF_DAY]


ACT_CALLS = {21: call_act, 22: call_acts, 23: call_met, 24: call_anywhere, 25: call_clock}

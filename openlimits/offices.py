"""The calls on one object: how they lie in one list, and what they answer."""

from openlimits.actcalls import ACT_CALLS
from openlimits.daycalls import DAY_CALLS
from openlimits.landcalls import LAND_CALLS
from openlimits.limitcalls import LIMIT_CALLS
from openlimits.refusals import NoEnd, NoLimit, NoneFound, NoSuchDay, NotRight, OutOfRange, TooMany
from openlimits.state import Office
from openlimits.stillcalls import STILL_CALLS

# How many whole numbers a call has, by its number; of these calls, those with a text behind them.
SIZES = (1, 3, 1, 3, 1, 2, 2, 2, 3, 3, 2, 2, 2, 0, 2, 1, 1, 3, 3, 5, 5, 3, 0, 4, 3, 2, 2, 2)
WITH_TEXT = (3, 15)


def answers(calls):
    office = Office()
    given = []
    at = 0
    while at < len(calls):
        number = calls[at]
        behind = at + 1 + SIZES[number]
        numbers = calls[at + 1:behind]
        if number in WITH_TEXT:
            begin = behind + 1
            behind = begin + calls[behind]
            numbers = numbers + calls[begin:behind]
        answer = answer_or_refusal(office, number, numbers)
        given.append(len(answer))
        given.extend(answer)
        at = behind
    return given


def answer_or_refusal(office, number, numbers):
    try:
        return answer_call(office, number, numbers)
    except OutOfRange:
        return [-1]
    except TooMany:
        return [-3]
    except NoSuchDay:
        return [-4]
    except NoneFound:
        return [-5]
    except NotRight:
        return [-6]
    except NoLimit:
        return [-8]
    except NoEnd:
        return [-9]


def answer_call(office, number, numbers):
    if number in DAY_CALLS:
        return DAY_CALLS[number](office, numbers)
    if number in LAND_CALLS:
        return LAND_CALLS[number](office, numbers)
    if number in STILL_CALLS:
        return STILL_CALLS[number](office, numbers)
    if number in LIMIT_CALLS:
        return LIMIT_CALLS[number](office, numbers)
    return ACT_CALLS[number](office, numbers)

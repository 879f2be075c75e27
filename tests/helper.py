"""What the tests share: calls by name, and days by date."""

import datetime

from openlimits.offices import answers

NAMES = ("date", "day", "easter", "land", "landtext", "closed", "next", "last", "opens", "kth", "feasts",
         "stop", "go", "stops", "still", "limit", "limittext", "end", "latest", "same", "never", "act", "acts", "met",
         "anywhere", "clock", "ends", "months")
EPOCH = datetime.date(2000, 1, 1).toordinal()
LAST_DAY = 146096
LAST_RECKONED = 182621
LOWEST = -9223372036854775808
HIGHEST = 9223372036854775807


def codes(text):
    return [ord(sign) for sign in text] if isinstance(text, str) else list(text)


def flat(call):
    """One call as it lies in the list; a text, or a list of numbers in its place, stands last."""
    row = [NAMES.index(call[0])]
    for value in call[1:]:
        if isinstance(value, int):
            row.append(value)
        else:
            row += [len(value)] + codes(value)
    return row


def flat_all(calls):
    return [number for call in calls for number in flat(call)]


def split(given):
    found = []
    at = 0
    while at < len(given):
        found.append(given[at + 1:at + 1 + given[at]])
        at += 1 + given[at]
    if at != len(given):
        raise AssertionError(f"the last answer is cut off: {given}")
    return found


def ask(*calls):
    """The answers to several calls on one object."""
    found = split(answers(flat_all(calls)))
    if len(found) != len(calls):
        raise AssertionError(f"{len(calls)} calls, {len(found)} answers")
    return found


def ask_land(text, *calls):
    """The answers to calls on land 0 once it has the calendar."""
    found = ask(("land", 0, 0, 0, text), *calls)
    if found[0][0] < 0:
        raise AssertionError(f"refused: {text}")
    return found[1:]


def ask_limits(texts, *calls):
    """The answers to calls once the limits are told, in the places from 0 on."""
    found = ask(*[("limit", place, text) for place, text in enumerate(texts)], *calls)
    if found[:len(texts)] != [[0]] * len(texts):
        raise AssertionError(f"refused: {texts}")
    return found[len(texts):]


def one(*call):
    return ask(call)[0]


def day(year, month, date):
    return datetime.date(year, month, date).toordinal() - EPOCH


def date(number):
    return datetime.date.fromordinal(number + EPOCH)


def gauss_sunday(year):
    """The moon Sunday by another way than the document's: the full moon's day first, then the Sunday behind it."""
    century = year // 100
    golden = year % 19
    skipped = century - century // 4 - (8 * century + 13) // 25 + 15
    epact = (19 * golden + skipped) % 30
    full = epact - (epact // 28) * (1 - (29 // (epact + 1)) * ((21 - golden) // 11))
    weekday = (year + year // 4 + full + 2 - century + century // 4) % 7
    offset = full - weekday
    month = 3 + (offset + 40) // 44
    return day(year, month, offset + 28 - 31 * (month // 4))

"""Reading a calendar's text. What isn't made as told raises NotRight."""

from openlimits.calendars import Calendar
from openlimits.dates import A_LEAP_YEAR, FIRST_YEAR, LAST_TOLD_YEAR, day_of, month_length
from openlimits.feasts import DateRule, EasterRule, Feast, FromRule, KthRule, LastRule
from openlimits.refusals import NotRight
from openlimits.texts import as_text, read_number

WEEKDAYS = ("mon", "tue", "wed", "thu", "fri", "sat", "sun")
MOST_SENTENCES = 20
FARTHEST_FROM_EASTER = 80


def read_calendar(codes):
    parts = as_text(codes).split(";")
    sentences = parts[:-1]
    if parts[-1] != "" or len(sentences) > MOST_SENTENCES:
        raise NotRight()
    calendar = Calendar()
    calendar.sentences = len(sentences)
    for sentence in sentences:
        add_sentence(calendar, sentence.split(" "))
    if len(calendar.rest_weekdays) == 7:
        raise NotRight()
    return calendar


def add_sentence(calendar, words):
    if words[0] == "feast":
        calendar.feasts.append(read_feast(words[1:], False))
    elif words[:2] == ["moved", "feast"]:
        calendar.feasts.append(read_feast(words[2:], True))
    elif len(words) != 2:
        raise NotRight()
    elif words[0] == "rest":
        calendar.rest_weekdays[read_weekday(words[1])] = True
    elif words[0] == "shut":
        calendar.shut_days[read_day(words[1])] = True
    elif words[0] == "open":
        calendar.opened_days[read_day(words[1])] = True
    else:
        raise NotRight()


# A feast's time is one word or three, so that the count of words tells whether years stand behind it.
def read_feast(words, moved):
    if len(words) == 1:
        return Feast(read_short_rule(words[0]), moved, None)
    if len(words) == 2:
        return Feast(read_short_rule(words[0]), moved, read_years(words[1]))
    if len(words) == 3:
        return Feast(read_long_rule(words), moved, None)
    if len(words) == 4:
        return Feast(read_long_rule(words), moved, read_years(words[3]))
    raise NotRight()


def read_short_rule(word):
    if word == "easter":
        return EasterRule(0)
    if word.startswith("easter+"):
        return EasterRule(read_number(word[7:], 1, FARTHEST_FROM_EASTER))
    if word.startswith("easter-"):
        return EasterRule(-read_number(word[7:], 1, FARTHEST_FROM_EASTER))
    pair = read_month_and_date(word)
    return DateRule(pair[0], pair[1])


def read_long_rule(words):
    if words[1] == "from":
        pair = read_month_and_date(words[2])
        return FromRule(read_weekday(words[0]), pair[0], pair[1])
    weekday = read_weekday(words[1])
    month = read_number(words[2], 1, 12)
    if words[0] == "last":
        return LastRule(weekday, month)
    return KthRule(read_number(words[0], 1, 5), weekday, month)


def read_years(word):
    parts = split_into(word, "-", 2)
    first = read_year(parts[0])
    return (first, read_number(parts[1], first, LAST_TOLD_YEAR))


def read_day(word):
    parts = split_into(word, "/", 3)
    year = read_year(parts[0])
    month = read_number(parts[1], 1, 12)
    return day_of(year, month, read_number(parts[2], 1, month_length(year, month)))


def read_month_and_date(word):
    parts = split_into(word, "/", 2)
    month = read_number(parts[0], 1, 12)
    return (month, read_number(parts[1], 1, month_length(A_LEAP_YEAR, month)))


def read_year(word):
    return read_number(word, FIRST_YEAR, LAST_TOLD_YEAR)


def read_weekday(word):
    if word not in WEEKDAYS:
        raise NotRight()
    return WEEKDAYS.index(word)


def split_into(word, sign, count):
    parts = word.split(sign)
    if len(parts) != count:
        raise NotRight()
    return parts

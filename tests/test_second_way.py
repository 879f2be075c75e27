"""Calendars read and reckoned a second way, by patterns and Python's own dates, beside what the program answers."""

import calendar
import datetime
import random
import re
import unittest

from tests.helper import EPOCH, LAST_DAY, ask, gauss_sunday

WEEKDAYS = ["mon", "tue", "wed", "thu", "fri", "sat", "sun"]
WD = "(mon|tue|wed|thu|fri|sat|sun)"
NUMBER = "([1-9][0-9]*)"
YEARS = f"(?: {NUMBER}-{NUMBER})?"
FEAST = "(moved )?feast "
PATTERNS = {
    "rest": re.compile(f"rest {WD}"),
    "date": re.compile(f"{FEAST}{NUMBER}/{NUMBER}{YEARS}"),
    "easter": re.compile(f"{FEAST}easter(?:([+-]){NUMBER})?{YEARS}"),
    "kth": re.compile(f"{FEAST}([1-5]|last) {WD} {NUMBER}{YEARS}"),
    "from": re.compile(f"{FEAST}{WD} from {NUMBER}/{NUMBER}{YEARS}"),
    "told": re.compile(f"(shut|open) {NUMBER}/{NUMBER}/{NUMBER}"),
}


def real(year, month, date):
    try:
        return datetime.date(year, month, date).toordinal() - EPOCH
    except ValueError:
        return None


def years_right(first, last):
    return first is None or 2000 <= int(first) <= int(last) <= 2399


def sentence(text):
    """The kind and the parts, or None where it isn't made as told."""
    for kind, pattern in PATTERNS.items():
        match = pattern.fullmatch(text)
        if match is None:
            continue
        parts = match.groups()
        if kind == "date":
            right = real(2000, int(parts[1]), int(parts[2])) is not None and years_right(*parts[3:])
        elif kind == "easter":
            right = (parts[2] is None or int(parts[2]) <= 80) and years_right(*parts[3:])
        elif kind == "kth":
            right = int(parts[3]) <= 12 and years_right(*parts[4:])
        elif kind == "from":
            right = real(2000, int(parts[2]), int(parts[3])) is not None and years_right(*parts[4:])
        elif kind == "told":
            right = 2000 <= int(parts[1]) <= 2399 and real(*[int(part) for part in parts[1:]]) is not None
        else:
            right = True
        return (kind, parts) if right else None
    return None


def sentences(text):
    """All sentences, or None where the text isn't right."""
    if text == "":
        return []
    if not text.endswith(";"):
        return None
    found = [sentence(part) for part in text[:-1].split(";")]
    if None in found or len(found) > 20:
        return None
    if len({parts for kind, parts in found if kind == "rest"}) == 7:
        return None
    return found


def falls(kind, parts, year):
    if parts[-2] is not None and not int(parts[-2]) <= year <= int(parts[-1]):
        return None
    if kind == "date":
        return real(year, int(parts[1]), int(parts[2]))
    if kind == "easter":
        return gauss_sunday(year) + int((parts[1] or "+") + (parts[2] or "0"))
    if kind == "kth":
        weeks = calendar.monthcalendar(year, int(parts[3]))
        dates = [week[WEEKDAYS.index(parts[2])] for week in weeks if week[WEEKDAYS.index(parts[2])]]
        place = len(dates) if parts[1] == "last" else int(parts[1])
        return real(year, int(parts[3]), dates[place - 1]) if place <= len(dates) else None
    begin = real(year, int(parts[2]), int(parts[3]))
    if begin is None:
        return None
    return [k for k in range(begin, begin + 7) if (k + 5) % 7 == WEEKDAYS.index(parts[1])][0]


class Second:
    def __init__(self, found):
        self.feasts = [part for part in found if part[0] not in ("rest", "told")]
        self.rest = {WEEKDAYS.index(parts[0]) for kind, parts in found if kind == "rest"}
        told = [(parts[0], real(*[int(part) for part in parts[1:]])) for kind, parts in found if kind == "told"]
        self.shut = {number for word, number in told if word == "shut"}
        self.opened = {number for word, number in told if word == "open"}
        self.known = {}

    def pairs(self, year):
        if year not in self.known:
            self.known[year] = self.find(year)
        return self.known[year]

    def find(self, year):
        pairs = []
        for kind, parts in self.feasts:
            number = falls(kind, parts, year)
            if number is None:
                continue
            choices = range(number, number + 400) if parts[0] else [number]
            busy = [pair[1] for pair in pairs] if parts[0] else []
            rest = self.rest if parts[0] else ()
            pairs.append((number, [k for k in choices if (k + 5) % 7 not in rest and k not in busy][0]))
        return pairs

    def closed(self, number):
        year = datetime.date.fromordinal(number + EPOCH).year
        years = [known for known in (year - 1, year) if known >= 2000]
        feast = any(number == pair[1] for known in years for pair in self.pairs(known))
        rest = (number + 5) % 7 in self.rest
        return number not in self.opened and (feast or rest or number in self.shut)

    def answer(self, call):
        name, number = call[0], call[2]
        if name == "feasts":
            pairs = self.pairs(number)
            return [len(pairs)] + [part for pair in pairs for part in pair]
        if name == "closed":
            return [int(self.closed(number))]
        if name == "opens":
            return [sum(not self.closed(k) for k in range(number, call[3] + 1))]
        if name == "last":
            found = [k for k in range(max(0, number - 400), number + 1) if not self.closed(k)]
            return found[-1:] or [-5]
        ahead = [k for k in range(number, number + 900) if not self.closed(k)]
        if name == "next":
            return ahead[:1]
        return [[k for k in ahead if k > number][call[3] - 1]]


def some_sentence(source):
    wd = source.choice(WEEKDAYS)
    month = source.choice((1, 1, 2, 12, 12, source.randint(1, 12)))
    date = source.choice((1, 2, 28, 29, 30, 31, source.randint(1, 31)))
    year = source.choice((2000, 2001, 2023, 2100, 2399, source.randint(2000, 2399)))
    if source.random() < 0.2:
        return f"rest {wd}"
    if source.random() < 0.2:
        return f"{source.choice(('shut', 'open'))} {year}/{month}/{date}"
    when = source.choice((f"{month}/{date}", "easter", f"easter+{source.randint(1, 80)}", f"easter-{source.randint(1, 80)}",
                          f"{source.randint(1, 5)} {wd} {month}", f"last {wd} {month}", f"{wd} from {month}/{date}"))
    years = source.choice(("", "", f" {year}-{source.choice((2399, year, 2023))}"))
    return source.choice(("feast ", "moved feast ", "moved feast ")) + when + years


def some_text(source, most):
    return "".join([some_sentence(source) + ";" for k in range(source.randint(0, most))])


def some_call(source):
    year = source.choice((2000, 2001, 2023, 2100, 2398, 2399, source.randint(2000, 2399)))
    begin = datetime.date(year, 1, 1).toordinal() - EPOCH
    number = min(LAST_DAY, max(0, begin + source.choice((source.randint(-9, 9), source.randint(0, 365)))))
    name = source.choice(("feasts", "closed", "closed", "next", "last", "opens", "kth"))
    if name == "feasts":
        return (name, 0, year)
    if name == "opens":
        return (name, 0, number, min(LAST_DAY, number + source.randint(0, 60)))
    if name == "kth":
        return (name, 0, number, source.randint(1, 60))
    return (name, 0, number)


class SecondWayTest(unittest.TestCase):
    def test_calendars(self):
        source = random.Random(5)
        right = 0
        while right < 150:
            text = some_text(source, 12)
            found = sentences(text)
            if found is None:
                continue
            right += 1
            second = Second(found)
            calls = [some_call(source) for k in range(25)]
            given = ask(("land", 0, 0, 0, text), *calls)
            for call, answer in zip(calls, given[1:]):
                self.assertEqual(answer, second.answer(call), (text, call))

    def test_texts_right_and_wrong(self):
        source = random.Random(6)
        counts = {True: 0, False: 0}
        for turn in range(4000):
            text = some_text(source, 3)
            if text and source.random() < 0.6:
                at = source.randrange(len(text))
                sign = source.choice(("", source.choice(text), source.choice(" ;/+-0129amx")))
                text = text[:at] + sign + text[at + source.randint(0, 1):]
            found = sentences(text)
            expected = [-6] if found is None else [len(found)]
            counts[found is None] += 1
            self.assertEqual(ask(("land", 0, 0, 0, text))[0], expected, text)
        self.assertGreater(min(counts.values()), 500)


if __name__ == "__main__":
    unittest.main()

"""All calls mixed on one object, beside a second office that reckons day by day and reads limits by patterns."""

import datetime
import random
import re
import unittest

from openlimits.offices import answers
from tests.helper import EPOCH, LAST_DAY, LAST_RECKONED, NAMES, ask, codes, flat_all, gauss_sunday, split
from tests.test_second_way import Second, real, sentences, some_text

# What is read already stands as its worth between < and >: how deep it is, or the day it ends on.
COUNT = "([1-9]|[1-9][0-9]|[123][0-9][0-9]|400)"
ADDED = re.compile(rf"<([0-9]+|none)>\+(?:{COUNT}([dwmy])|([1-9]|1[0-9]|20)(o))")
WITH_ONE = re.compile(r"(receipt|open|back|month|going)\(<([0-9]+|none)>\)")
WITH_TWO = re.compile(r"(later|earlier)\(<([0-9]+|none)>,<([0-9]+|none)>\)")
READ = re.compile("<([0-9]+|none)>")

# The ranges of each call's numbers; a pair of a name and a number is a second day, at most so far behind the one before.
A, N, K, KIND, YEAR, MINUTE = (0, 3), (0, LAST_DAY), (0, 5), (0, 9), (2000, 2399), (1440, 210378240)
RANGES = {
    "date": (N,), "day": (YEAR, (1, 12), (1, 31)), "easter": (YEAR,), "land": (A, (-720, 840), (0, 30)), "landtext": (A,),
    "closed": (A, N), "next": (A, N), "last": (A, N), "opens": (A, N, ("to", 400)), "kth": (A, N, (1, 60)), "feasts": (A, YEAR),
    "stop": (N, ("to", 4000)), "go": (N, ("to", 4000)), "stops": (), "still": (N, ("to", LAST_DAY)), "limit": (K,),
    "limittext": (K,), "end": (K, A, N), "latest": (K, A, N), "same": (K, K, A, N, ("to", 60)),
    "never": (K, K, A, N, ("to", 60)), "act": (KIND, A, MINUTE), "acts": (), "met": (K, A, N, KIND), "anywhere": (K, N, KIND),
    "clock": (A, MINUTE), "ends": (K, N), "months": (N, (0, 1200)),
}
LONGEST = {"land": 800, "limit": 100}
ON_LIMITS = {"limittext": 1, "end": 1, "latest": 1, "same": 2, "never": 2, "met": 1, "anywhere": 1, "ends": 1}
FEW = ("opens", "latest", "same", "never")


def rewritten(text, added, one, two):
    while READ.fullmatch(text) is None:
        before = text
        text = ADDED.sub(added, text)
        text = WITH_ONE.sub(one, text)
        text = WITH_TWO.sub(two, text)
        if text == before:
            return None
    return READ.fullmatch(text).group(1)


def right_limit(text):
    if "<" in text or ">" in text:
        return False
    found = rewritten(text.replace("start", "<1>"), lambda match: f"<{match.group(1)}>",
                      lambda match: f"<{int(match.group(2)) + 1}>",
                      lambda match: f"<{max(int(match.group(2)), int(match.group(3))) + 1}>")
    return found is not None and int(found) <= 12


def later_month(number, count):
    told = datetime.date.fromordinal(number + EPOCH)
    month = told.year * 12 + told.month - 1 + count
    dates = [real(month // 12, month % 12 + 1, date) for date in range(told.day, 27, -1)] or [None]
    dates.append(real(month // 12, month % 12 + 1, min(told.day, 28)))
    return [found for found in dates if found is not None][0]


class SecondLimit:
    """The end of a limit begun on a day."""

    def __init__(self, begin, land, still):
        self.begin = begin
        self.post = land[1]
        self.calendar = land[3]
        self.still = still

    def closed(self, number):
        known = self.calendar.known
        if ("day", number) not in known:
            known["day", number] = self.calendar.closed(number)
        return known["day", number]

    def end(self, text):
        found = rewritten(text.replace("start", f"<{self.begin}>"), self.added, self.with_one, self.with_two)
        return None if found == "none" else int(found)

    def written(self, number):
        return "<none>" if number is None or number > LAST_RECKONED else f"<{number}>"

    def added(self, match):
        if match.group(1) == "none":
            return "<none>"
        number = int(match.group(1))
        count = int(match.group(2) or match.group(4))
        letter = match.group(3) or match.group(5)
        if letter == "o":
            while count > 0:
                number += 1
                count -= not self.closed(number)
            return self.written(number)
        if letter in "my":
            return self.written(later_month(number, count * (12 if letter == "y" else 1)))
        return self.written(number + count * (7 if letter == "w" else 1))

    def with_one(self, match):
        if match.group(2) == "none":
            return "<none>"
        number = int(match.group(2))
        return self.written(getattr(self, "word_" + match.group(1))(number))

    def with_two(self, match):
        sides = match.group(2, 3)
        if "none" in sides:
            return "<none>"
        return f"<{(max if match.group(1) == 'later' else min)([int(side) for side in sides])}>"

    def word_receipt(self, number):
        return number + self.post

    def word_open(self, number):
        while self.closed(number):
            number += 1
        return number

    def word_back(self, number):
        while number >= 0 and self.closed(number):
            number -= 1
        return None if number < 0 else number

    def word_month(self, number):
        while datetime.date.fromordinal(number + 1 + EPOCH).day != 1:
            number += 1
        return number

    def word_going(self, number):
        if number <= self.begin:
            return number
        left = number - self.begin
        found = self.begin
        last_still = max(self.still, default=0)
        while left > 0 and found <= last_still:
            found += 1
            left -= found not in self.still
        return found + left


class SecondOffice:
    def __init__(self):
        self.lands = [(0, 0, "", Second([]))] * 4
        self.still = set()
        self.limits = {}
        self.acts = []

    def answer(self, call):
        name = call[0]
        if not self.in_range(name, call[1:]):
            return [-1]
        if any(place not in self.limits for place in call[1:1 + ON_LIMITS.get(name, 0)]):
            return [-8]
        if name in ("closed", "next", "last", "opens", "kth", "feasts"):
            return self.lands[call[1]][3].answer(call)
        return getattr(self, "call_" + name)(*call[1:])

    def in_range(self, name, values):
        for place, (low, high) in enumerate(RANGES[name]):
            if low == "to":
                low, high = values[place - 1], min(LAST_DAY, values[place - 1] + high)
            if not low <= values[place] <= high:
                return False
        if name not in LONGEST:
            return True
        return len(values[-1]) <= LONGEST[name] and all(0 <= code <= 255 for code in codes(values[-1]))

    def end(self, place, a, begin):
        return SecondLimit(begin, self.lands[a], self.still).end(self.limits[place])

    def runs(self, still):
        firsts = sorted(number for number in still if number - 1 not in still)
        lasts = sorted(number for number in still if number + 1 not in still)
        return list(zip(firsts, lasts))

    def call_date(self, number):
        told = datetime.date.fromordinal(number + EPOCH)
        return [told.year, told.month, told.day, told.weekday()]

    def call_day(self, year, month, date):
        number = real(year, month, date)
        return [-4] if number is None else [number]

    def call_easter(self, year):
        return [gauss_sunday(year)]

    def call_land(self, a, ahead, post, text):
        text = bytes(codes(text)).decode("latin-1")
        found = sentences(text)
        if found is None:
            return [-6]
        self.lands = self.lands[:a] + [(ahead, post, text, Second(found))] + self.lands[a + 1:]
        return [len(found)]

    def call_landtext(self, a):
        return [self.lands[a][0] + 720, self.lands[a][1]] + codes(self.lands[a][2])

    def changed(self, still):
        if len(self.runs(still)) > 12:
            return [-3]
        self.still = still
        return [len(self.runs(still))]

    def call_stop(self, first, last):
        return self.changed(self.still | set(range(first, last + 1)))

    def call_go(self, first, last):
        return self.changed(self.still - set(range(first, last + 1)))

    def call_stops(self):
        runs = self.runs(self.still)
        return [len(runs)] + [number for run in runs for number in run]

    def call_still(self, first, last):
        return [len([number for number in self.still if first <= number <= last])]

    def call_limit(self, place, text):
        text = bytes(codes(text)).decode("latin-1")
        if not right_limit(text):
            return [-6]
        self.limits[place] = text
        return [0]

    def call_limittext(self, place):
        return codes(self.limits[place])

    def call_end(self, place, a, begin):
        found = self.end(place, a, begin)
        return [-9] if found is None else [found]

    def call_latest(self, place, a, last):
        ends = {begin: self.end(place, a, begin) for begin in range(max(0, last - 200), last + 1)}
        return [begin for begin, end in ends.items() if end is not None and end <= last][-1:] or [-5]

    def compared(self, one, other, a, first, last, fails):
        behind_all = 10 ** 9
        for begin in range(first, last + 1):
            ends = [self.end(place, a, begin) for place in (one, other)]
            if fails(*[behind_all if end is None else end for end in ends]):
                return [0, begin]
        return [1]

    def call_same(self, *told):
        return self.compared(*told, lambda one, other: one != other)

    def call_never(self, *told):
        return self.compared(*told, lambda one, other: one > other)

    def call_act(self, kind, a, minute):
        if len(self.acts) == 30:
            return [-3]
        self.acts.append((kind, a, minute))
        return [len(self.acts) - 1]

    def call_acts(self):
        return [len(self.acts)] + [number for act in self.acts for number in act]

    def call_clock(self, a, minute):
        begin = datetime.datetime(2000, 1, 1)
        there = begin + datetime.timedelta(minutes=minute + self.lands[a][0])
        return [there.toordinal() - EPOCH, there.hour * 60 + there.minute]

    def call_met(self, place, a, begin, kind):
        return self.first_in_time(place, (a,), begin, kind)

    def call_anywhere(self, place, begin, kind):
        return self.first_in_time(place, range(4), begin, kind)

    def first_in_time(self, place, lands, begin, kind):
        found = []
        for number, act in enumerate(self.acts):
            end = self.end(place, act[1], begin)
            there = self.call_clock(act[1], act[2])[0]
            if act[0] == kind and act[1] in lands and end is not None and begin <= there <= end:
                found.append((act[2], number, there))
        return [1, *min(found)[1:]] if found else [0]

    def call_ends(self, place, begin):
        ends = [self.end(place, a, begin) for a in range(4)]
        if None in ends:
            return [-9]
        return ends + [min(a for a in range(4) if ends[a] == max(ends))]

    def call_months(self, number, count):
        return [later_month(number, count)]


def some_limit(source, deep):
    if deep == 0 or source.random() < 0.25:
        text = "start"
    elif source.random() < 0.25:
        text = f"{source.choice(('later', 'earlier'))}({some_limit(source, deep - 1)},{some_limit(source, deep - 1)})"
    else:
        text = f"{source.choice(('receipt', 'open', 'back', 'month', 'going', 'going'))}({some_limit(source, deep - 1)})"
    while source.random() < 0.4:
        text += "+" + source.choice((f"{source.randint(1, 40)}d", f"{source.randint(1, 9)}w", f"{source.randint(1, 30)}m",
                                     f"{source.choice((1, 2, 4, 100))}y", f"{source.randint(1, 20)}o", "400d", "400y"))
    return text


def some_changed(source, text):
    """A text with one sign left out, put in or changed."""
    at = source.randrange(len(text))
    sign = source.choice(("", source.choice(text), source.choice("()+,0123dwmyos x")))
    return text[:at] + sign + text[at + source.randint(0, 1):]


class Maker:
    """Calls near a few days, so that what is told in some matters in others."""

    def __init__(self, source):
        self.source = source
        self.days = [source.choice((0, 60, 400, 8401, 36500, LAST_DAY - 30, LAST_DAY, source.randint(0, LAST_DAY)))
                     for k in range(2)]

    def number(self, low, high, before):
        source = self.source
        if source.random() < 0.012:
            return source.choice((low - 1, high + 1, -9223372036854775808, 9223372036854775807)) if low != "to" else -1
        if low == "to":
            return before + min(high, source.choice((0, 1, 5, source.randint(0, 40), source.randint(0, 70))))
        if high == LAST_DAY:
            return min(LAST_DAY, max(0, source.choice(self.days) + source.randint(-40, 40)))
        if high == 210378240:
            day = self.number(0, LAST_DAY, 0)
            return min(high, max(low, 1440 * day + source.choice((0, 1439, 720, source.randint(0, 1439)))))
        if high == 2399:
            return source.choice((2000, 2022, 2023, 2100, 2399))
        if high == 9:
            return source.randint(0, 1)
        if (low, high) == (0, 3):
            return source.choice((0, 0, 1, 2, 3))
        return source.randint(low, high)

    def call(self, name):
        source = self.source
        values = []
        for low, high in RANGES[name]:
            values.append(self.number(low, high, values[-1] if values else 0))
        if name == "land":
            values.append(some_text(source, 5))
        if name == "limit":
            text = some_limit(source, source.choice((1, 2, 3, 4)))
            values.append(some_changed(source, text) if source.random() < 0.15 else text)
        if name in LONGEST and source.random() < 0.03:
            values[-1] = codes(values[-1]) + [source.choice((256, -1, 255))]
        return (name, *values)

    def calls(self, count):
        source = self.source
        names = [source.choice([name for name in NAMES if name not in FEW] + ["act", "act"]) for k in range(count - 10)]
        names += [source.choice(FEW) for k in range(10)]
        source.shuffle(names)
        return [self.call("limit") for k in range(3)] + [self.call(name) for name in names[3:]]


class SecondOfficeTest(unittest.TestCase):
    def check(self, calls):
        row = flat_all(calls)
        self.assertLessEqual(len(row), 16000)
        before = list(row)
        found = split(answers(row))
        self.assertEqual(row, before)
        self.assertEqual(len(found), len(calls))
        second = SecondOffice()
        for place, call in enumerate(calls):
            self.assertEqual(found[place], second.answer(call), calls[:place + 1])
        return found

    def test_four_hundred_calls_mixed(self):
        seen = set()
        refusals = set()
        for turn in range(12):
            calls = Maker(random.Random(100 + turn)).calls(400)
            self.assertEqual(len(calls), 400)
            found = self.check(calls)
            seen |= {call[0] for call in calls}
            refusals |= {(call[0], answer[0]) for call, answer in zip(calls, found) if answer[0] < 0}
        self.assertEqual(seen, set(NAMES))
        self.assertLessEqual({("act", -3), ("day", -4), ("latest", -5), ("land", -6), ("limit", -6), ("limit", -1), ("end", -9),
                              ("ends", -9), ("end", -8), ("same", -8), ("met", -8)}, refusals)

    def test_forty_calls_mixed(self):
        for turn in range(120):
            self.check(Maker(random.Random(1000 + turn)).calls(40))

    def test_limits_and_stretches(self):
        for turn in range(150):
            source = random.Random(5000 + turn)
            maker = Maker(source)
            names = ["land"] * 2 + ["stop"] * 6 + ["go"] + ["limit"] * 4 + ["act"] * 8
            names += ["end", "end", "end", "ends", "met", "anywhere", "still"] * 8
            self.check([maker.call(name) for name in names])

    def test_limit_texts_right_and_wrong(self):
        source = random.Random(7)
        counts = {True: 0, False: 0}
        for turn in range(6000):
            text = some_limit(source, source.choice((1, 2, 4, 12)))
            if source.random() < 0.5:
                text = some_changed(source, text)
            expected = [-1] if len(text) > 100 else [0] if right_limit(text) else [-6]
            counts[expected == [0]] += 1
            self.assertEqual(ask(("limit", 0, text))[0], expected, text)
        self.assertGreater(min(counts.values()), 1000)


if __name__ == "__main__":
    unittest.main()

import unittest

from openlimits.offices import answers
from tests.helper import HIGHEST, LAST_DAY, LOWEST, NAMES, ask, codes, flat_all, one

TEXT = "rest sun;moved feast 1/1;"

# For each call, numbers that are right, and the least and the most that each may be while the others stay.
RANGES = {
    "date": ([5], [(0, LAST_DAY)]),
    "day": ([2024, 1, 5], [(2000, 2399), (1, 12), (1, 31)]),
    "easter": ([2024], [(2000, 2399)]),
    "land": ([0, 0, 0, ""], [(0, 3), (-720, 840), (0, 30)]),
    "landtext": ([0], [(0, 3)]),
    "closed": ([0, 5], [(0, 3), (0, LAST_DAY)]),
    "next": ([0, 5], [(0, 3), (0, LAST_DAY)]),
    "last": ([0, 5], [(0, 3), (0, LAST_DAY)]),
    "opens": ([0, 5, 200], [(0, 3), (0, 200), (5, 405)]),
    "kth": ([0, 5, 3], [(0, 3), (0, LAST_DAY), (1, 60)]),
    "feasts": ([0, 2024], [(0, 3), (2000, 2399)]),
    "stop": ([5, 200], [(0, 200), (5, 4005)]),
    "go": ([5, 200], [(0, 200), (5, 4005)]),
    "still": ([5, 200], [(0, 200), (5, LAST_DAY)]),
    "limit": ([0, "start"], [(0, 5)]),
    "limittext": ([0], [(0, 5)]),
    "end": ([0, 0, 5], [(0, 5), (0, 3), (0, LAST_DAY)]),
    "latest": ([0, 0, 5], [(0, 5), (0, 3), (0, LAST_DAY)]),
    "same": ([0, 1, 0, 105, 130], [(0, 5), (0, 5), (0, 3), (70, 130), (105, 165)]),
    "never": ([0, 1, 0, 105, 130], [(0, 5), (0, 5), (0, 3), (70, 130), (105, 165)]),
    "act": ([0, 0, 5000], [(0, 9), (0, 3), (1440, 210378240)]),
    "met": ([0, 0, 5, 0], [(0, 5), (0, 3), (0, LAST_DAY), (0, 9)]),
    "anywhere": ([0, 5, 0], [(0, 5), (0, LAST_DAY), (0, 9)]),
    "clock": ([0, 5000], [(0, 3), (1440, 210378240)]),
    "ends": ([0, 5], [(0, 5), (0, LAST_DAY)]),
    "months": ([5, 3], [(0, LAST_DAY), (0, 1200)]),
}
LIMITS = [("limit", place, "start") for place in range(6)]


class RangeTest(unittest.TestCase):
    def test_each_number_at_the_ends_of_its_range(self):
        for name, (values, ranges) in RANGES.items():
            for place, (low, high) in enumerate(ranges):
                for number in (low, high):
                    call = values[:place] + [number] + values[place + 1:]
                    with self.subTest(name=name, call=call):
                        self.assertGreaterEqual(ask(*LIMITS, (name, *call))[-1][0], 0)

    def test_each_number_just_beyond_its_range(self):
        for name, (values, ranges) in RANGES.items():
            for place, (low, high) in enumerate(ranges):
                for number in (low - 1, high + 1, LOWEST, HIGHEST):
                    call = values[:place] + [number] + values[place + 1:]
                    with self.subTest(name=name, call=call):
                        self.assertEqual(one(name, *call), [-1])
                        self.assertEqual(ask(*LIMITS, (name, *call))[-1], [-1])

    def test_each_call_is_there(self):
        self.assertEqual(set(NAMES) - set(RANGES), {"stops", "acts"})

    def test_places_where_no_limit_is_told(self):
        for name, (values, ranges) in RANGES.items():
            if name in ("limittext", "end", "latest", "same", "never", "met", "anywhere", "ends"):
                self.assertEqual(one(name, *values), [-8])


class LayoutTest(unittest.TestCase):
    def test_the_examples_number_by_number(self):
        self.assertEqual(answers([0, 0]), [4, 2000, 1, 1, 5])
        self.assertEqual(answers([1, 2024, 2, 29]), [1, 8825])
        self.assertEqual(answers([2, 2024]), [1, 8856])
        self.assertEqual(answers([3, 0, 0, 0, 25] + codes(TEXT) + [10, 0, 2023, 5, 0, 8402]),
                         [1, 2, 3, 1, 8401, 8402, 1, 1])
        self.assertEqual(answers([27, 8796, 1]), [1, 8825])
        self.assertEqual(answers([3, 0, 0, 0, 25] + codes(TEXT) + [15, 0, 14] + codes("open(start+1m)") + [17, 0, 0, 8371]),
                         [1, 2, 1, 0, 1, 8403])

    def test_each_call_number_by_number(self):
        told = [3, 2, 60, 4, 25] + codes(TEXT)
        self.assertEqual(answers(told + [4, 2]), [1, 2, 27, 780, 4] + codes(TEXT))
        self.assertEqual(answers(told + [6, 2, 8401]), [1, 2, 1, 8403])
        self.assertEqual(answers(told + [7, 2, 8402]), [1, 2, 1, 8400])
        self.assertEqual(answers(told + [8, 2, 8400, 8404]), [1, 2, 1, 3])
        self.assertEqual(answers(told + [9, 2, 8400, 2]), [1, 2, 1, 8404])
        self.assertEqual(answers([11, 5, 9, 12, 7, 7, 13]), [1, 1, 1, 2, 5, 2, 5, 6, 8, 9])
        self.assertEqual(answers([13]), [1, 0])

    def test_each_call_on_limits_number_by_number(self):
        told = [15, 2, 8] + codes("start+5d") + [15, 3, 5] + codes("start")
        self.assertEqual(answers([11, 5, 9, 14, 7, 20]), [1, 1, 1, 3])
        self.assertEqual(answers(told + [16, 2]), [1, 0, 1, 0, 8] + codes("start+5d"))
        self.assertEqual(answers(told + [17, 2, 0, 10]), [1, 0, 1, 0, 1, 15])
        self.assertEqual(answers(told + [18, 2, 0, 10]), [1, 0, 1, 0, 1, 5])
        self.assertEqual(answers(told + [19, 2, 3, 0, 10, 20]), [1, 0, 1, 0, 2, 0, 10])
        self.assertEqual(answers(told + [19, 2, 2, 0, 10, 20]), [1, 0, 1, 0, 1, 1])
        self.assertEqual(answers(told + [20, 2, 3, 0, 10, 20]), [1, 0, 1, 0, 2, 0, 10])
        self.assertEqual(answers(told + [20, 3, 2, 0, 10, 20]), [1, 0, 1, 0, 1, 1])
        self.assertEqual(answers(told + [26, 2, 10]), [1, 0, 1, 0, 5, 15, 15, 15, 15, 0])

    def test_each_call_on_acts_number_by_number(self):
        told = [15, 2, 8] + codes("start+5d") + [21, 4, 1, 17285]
        self.assertEqual(answers(told + [22]), [1, 0, 1, 0, 4, 1, 4, 1, 17285])
        self.assertEqual(answers([22]), [1, 0])
        self.assertEqual(answers(told + [23, 2, 1, 10, 4]), [1, 0, 1, 0, 3, 1, 0, 12])
        self.assertEqual(answers(told + [23, 2, 0, 10, 4]), [1, 0, 1, 0, 1, 0])
        self.assertEqual(answers(told + [24, 2, 10, 4]), [1, 0, 1, 0, 3, 1, 0, 12])
        self.assertEqual(answers(told + [24, 2, 13, 4]), [1, 0, 1, 0, 1, 0])
        self.assertEqual(answers(told + [25, 1, 17285]), [1, 0, 1, 0, 2, 12, 5])

    def test_a_refusal_stands_alone(self):
        self.assertEqual(answers([0, -1, 1, 2023, 2, 29, 7, 0, 0]), [1, -1, 1, -4, 1, 0])
        self.assertEqual(answers([3, 0, 0, 0, 1, 59, 0, 1]), [1, -6, 4, 2000, 1, 2, 6])

    def test_each_refusal_of_limits_and_acts_stands_alone(self):
        self.assertEqual(answers([16, 0, 17, 0, 0, 5, 26, 5, 5, 19, 0, 1, 0, 5, 5, 15, 0, 0, 15, 0, 1, 256, 13]),
                         [1, -8, 1, -8, 1, -8, 1, -8, 1, -6, 1, -1, 1, 0])
        self.assertEqual(answers([15, 0, 10] + codes("start+400y") + [17, 0, 0, 146096, 26, 0, 146096, 18, 0, 0, 9, 22]),
                         [1, 0, 1, -9, 1, -9, 1, -5, 1, 0])

    def test_an_empty_text(self):
        self.assertEqual(answers([3, 1, 0, 0, 0, 4, 1, 0, 0]), [1, 0, 2, 720, 0, 4, 2000, 1, 1, 5])

    def test_a_text_whose_numbers_look_like_calls(self):
        self.assertEqual(answers([3, 1, 0, 0, 4, 0, 0, 13, 13, 13]), [1, -6, 1, 0])
        self.assertEqual(answers([3, 4, 0, 0, 4, 0, 0, 13, 13, 13]), [1, -1, 1, 0])
        self.assertEqual(answers([3, 0, 0, 0, 801] + [13] * 801 + [13]), [1, -1, 1, 0])
        self.assertEqual(answers([15, 0, 3, 22, 22, 22, 22]), [1, -6, 1, 0])
        self.assertEqual(answers([15, 6, 3, 22, 22, 22, 22]), [1, -1, 1, 0])
        self.assertEqual(answers([15, 0, 800] + [22] * 800 + [22]), [1, -1, 1, 0])

    def test_the_same_call_again_and_again(self):
        self.assertEqual(answers([13] * 400), [1, 0] * 400)
        self.assertEqual(answers([8, 0, 0, 400] * 10), [1, 401] * 10)

    def test_many_calls_in_any_order(self):
        found = ask(("stops",), ("feasts", 0, 2023), ("land", 0, 0, 0, TEXT), ("date", 8401), ("feasts", 0, 2023),
                    ("stop", 1, 2), ("closed", 1, 8401), ("closed", 0, 8401), ("stops",), ("land", 0, 0, 0, ""),
                    ("closed", 0, 8401), ("go", 1, 2), ("easter", 2024), ("opens", 0, 0, 6), ("stops",))
        self.assertEqual(found, [[0], [0], [2], [2023, 1, 1, 6], [1, 8401, 8402], [1], [0], [1], [1, 1, 2], [0], [0],
                                 [0], [8856], [7], [0]])

    def test_asking_changes_nothing(self):
        text = "rest sat;feast 1/3;moved feast 1/1;shut 2000/1/7;open 2000/1/8;"
        asked = (("closed", 0, 3), ("next", 0, 0), ("last", 0, 9), ("opens", 0, 0, 30), ("kth", 0, 0, 5),
                 ("feasts", 0, 2000), ("landtext", 0), ("stops",), ("date", 3), ("day", 2000, 1, 4), ("easter", 2000))
        found = ask(("land", 0, 1, 2, text), ("stop", 4, 6), *asked, *asked, *reversed(asked))
        first = found[2:2 + len(asked)]
        self.assertEqual(found[2 + len(asked):2 + 2 * len(asked)], first)
        self.assertEqual(found[2 + 2 * len(asked):], first[::-1])

    def test_what_is_handed_in_stays_as_it_was(self):
        calls = flat_all([("land", 0, 0, 0, TEXT), ("landtext", 0), ("stop", 3, 9), ("go", 5, 5), ("stops",),
                          ("feasts", 0, 2023), ("opens", 0, 0, 400), ("kth", 0, 0, 9), ("land", 1, 0, 0, "x"), ("date", -1)])
        before = list(calls)
        answers(calls)
        self.assertEqual(calls, before)
        calls = flat_all([*LIMITS, ("limit", 0, "later(open(start+1m),going(start+20o))"), ("limit", 1, "start+401d"),
                          ("act", 0, 0, 9000), ("act", 0, 0, 9), ("stop", 3, 9), ("limittext", 0), ("end", 0, 0, 5),
                          ("latest", 0, 0, 90), ("same", 0, 1, 0, 5, 9), ("never", 0, 1, 0, 5, 9), ("acts",), ("met", 0, 0, 5, 0),
                          ("anywhere", 0, 5, 0), ("clock", 0, 9000), ("ends", 0, 5), ("months", 5, 5), ("still", 5, 6)])
        before = list(calls)
        answers(calls)
        self.assertEqual(calls, before)

    def test_nothing_is_kept_from_one_time_to_the_next(self):
        calls = flat_all([("landtext", 0), ("closed", 0, 1), ("feasts", 0, 2023), ("stops",), ("land", 0, 9, 9, TEXT),
                          ("stop", 3, 9), ("closed", 0, 1), ("landtext", 0), ("stops",)])
        first = answers(calls)
        self.assertEqual(answers(calls), first)
        self.assertEqual(answers(flat_all([("landtext", 0), ("closed", 0, 1), ("stops",)])), [2, 720, 0, 1, 0, 1, 0])
        calls = flat_all([("limittext", 0), ("acts",), ("still", 0, 9), ("limit", 0, "start"), ("act", 0, 0, 9000), ("stop", 3, 9),
                          ("limittext", 0), ("acts",), ("still", 0, 9)])
        first = answers(calls)
        self.assertEqual(answers(calls), first)
        self.assertEqual(answers([16, 0, 22, 14, 0, 9]), [1, -8, 1, 0, 1, 0])

    def test_asking_of_limits_and_acts_changes_nothing(self):
        told = (*LIMITS, ("limit", 0, "open(going(start+1m)+5o)"), ("limit", 1, "back(start)"), ("stop", 4, 60), ("act", 0, 0, 90000),
                ("act", 0, 1, 80000), ("land", 0, 60, 2, "rest sat;rest sun;feast easter;"))
        asked = (("still", 0, 99), ("limittext", 0), ("limittext", 5), ("end", 0, 0, 9), ("end", 1, 0, 0), ("latest", 0, 0, 99),
                 ("same", 0, 1, 0, 0, 9), ("never", 1, 0, 0, 0, 9), ("acts",), ("met", 0, 0, 9, 0), ("anywhere", 0, 9, 0),
                 ("clock", 0, 9000), ("ends", 1, 1), ("ends", 0, 9), ("months", 9, 9), ("stops",), ("landtext", 0))
        found = ask(*told, *asked, *asked, *reversed(asked))[len(told):]
        self.assertEqual(found[len(asked):2 * len(asked)], found[:len(asked)])
        self.assertEqual(found[2 * len(asked):], found[:len(asked)][::-1])

    def test_what_is_given_back_is_new_each_time(self):
        first = answers([0, 0, 13])
        first[0] = 99
        self.assertEqual(answers([0, 0, 13]), [4, 2000, 1, 1, 5, 1, 0])

    def test_answers_are_whole_numbers_in_a_list(self):
        calls = flat_all([("land", 0, 0, 0, TEXT), ("closed", 0, 1), ("closed", 0, 2), ("opens", 0, 0, 9), ("landtext", 0),
                          ("feasts", 0, 2023), ("stop", 1, 1), ("go", 1, 1), ("stops",), ("date", 0), ("last", 0, 1),
                          ("next", 0, 1), ("kth", 0, 0, 1), ("easter", 2000), ("day", 2000, 2, 30), ("date", -1), *LIMITS,
                          ("limittext", 0), ("end", 0, 0, 9), ("latest", 0, 0, 9), ("same", 0, 1, 0, 0, 9), ("never", 1, 0, 0, 0, 9),
                          ("act", 0, 0, 9000), ("acts",), ("met", 0, 0, 6, 0), ("anywhere", 0, 6, 0), ("clock", 0, 9000),
                          ("ends", 0, 9), ("months", 9, 9), ("still", 0, 9)])
        found = answers(calls)
        self.assertIs(type(found), list)
        self.assertEqual({type(number) for number in found}, {int})


if __name__ == "__main__":
    unittest.main()

import random
import unittest

from tests.helper import LAST_DAY, ask, one

TWELVE = [("stop", 100 * k, 100 * k + 9) for k in range(12)]
TWELVE_TOLD = [12] + [number for k in range(12) for number in (100 * k, 100 * k + 9)]


def last_stops(*calls):
    return ask(*calls, ("stops",))[-1]


def runs(days):
    """The stretches that a set of days makes."""
    found = []
    for number in sorted(days):
        if number - 1 not in days:
            found.append([number, number])
        found[-1][1] = number
    return found


class StopTest(unittest.TestCase):
    def test_none_before_the_first_call(self):
        self.assertEqual(one("stops"), [0])

    def test_a_stretch(self):
        self.assertEqual(ask(("stop", 10, 20), ("stops",)), [[1], [1, 10, 20]])
        self.assertEqual(last_stops(("stop", 5, 5)), [1, 5, 5])

    def test_stretches_stand_in_the_order_of_days(self):
        self.assertEqual(ask(("stop", 50, 60), ("stop", 10, 20), ("stop", 30, 40), ("stops",)),
                         [[1], [2], [3], [3, 10, 20, 30, 40, 50, 60]])

    def test_one_day_between_keeps_them_apart(self):
        self.assertEqual(last_stops(("stop", 10, 20), ("stop", 22, 30)), [2, 10, 20, 22, 30])
        self.assertEqual(last_stops(("stop", 22, 30), ("stop", 10, 20)), [2, 10, 20, 22, 30])

    def test_stretches_that_touch_are_one(self):
        self.assertEqual(ask(("stop", 10, 20), ("stop", 21, 30), ("stops",)), [[1], [1], [1, 10, 30]])
        self.assertEqual(ask(("stop", 21, 30), ("stop", 10, 20), ("stops",)), [[1], [1], [1, 10, 30]])

    def test_stretches_that_overlap_are_one(self):
        for second in ((15, 30), (20, 30), (10, 30)):
            self.assertEqual(last_stops(("stop", 10, 20), ("stop", *second)), [1, 10, 30])
        for second in ((5, 15), (5, 10), (5, 20)):
            self.assertEqual(last_stops(("stop", 10, 20), ("stop", *second)), [1, 5, 20])

    def test_a_stretch_within_another(self):
        self.assertEqual(last_stops(("stop", 10, 20), ("stop", 12, 15)), [1, 10, 20])
        self.assertEqual(last_stops(("stop", 10, 20), ("stop", 10, 20)), [1, 10, 20])
        self.assertEqual(last_stops(("stop", 12, 15), ("stop", 10, 20)), [1, 10, 20])

    def test_one_that_joins_several(self):
        three = (("stop", 10, 20), ("stop", 30, 40), ("stop", 50, 60))
        self.assertEqual(last_stops(*three, ("stop", 21, 29)), [2, 10, 40, 50, 60])
        self.assertEqual(last_stops(*three, ("stop", 15, 55)), [1, 10, 60])
        self.assertEqual(last_stops(*three, ("stop", 21, 49)), [1, 10, 60])
        self.assertEqual(last_stops(*three, ("stop", 0, 100)), [1, 0, 100])
        self.assertEqual(last_stops(*three, ("stop", 22, 48)), [3, 10, 20, 22, 48, 50, 60])
        self.assertEqual(last_stops(*three, ("stop", 41, 41)), [3, 10, 20, 30, 41, 50, 60])

    def test_the_first_and_last_day_told(self):
        self.assertEqual(last_stops(("stop", 0, 0), ("stop", LAST_DAY, LAST_DAY)), [2, 0, 0, LAST_DAY, LAST_DAY])
        self.assertEqual(last_stops(("stop", 1, 1), ("stop", 0, 0)), [1, 0, 1])
        self.assertEqual(last_stops(("stop", LAST_DAY - 4000, LAST_DAY)), [1, LAST_DAY - 4000, LAST_DAY])

    def test_the_ends_of_the_range(self):
        self.assertEqual(last_stops(("stop", 0, 4000)), [1, 0, 4000])
        self.assertEqual(last_stops(("stop", 0, 4000), ("stop", 4001, 8001)), [1, 0, 8001])

    def test_out_of_range(self):
        for name in ("stop", "go"):
            for n, m in ((-1, 0), (LAST_DAY + 1, LAST_DAY + 1), (5, 4), (0, 4001), (7, 4008), (LAST_DAY, LAST_DAY + 1),
                         (LAST_DAY - 10, LAST_DAY + 1), (0, -1), (-5, -3)):
                self.assertEqual(ask(("stop", 3, 8), (name, n, m), ("stops",)), [[1], [-1], [1, 3, 8]])

    def test_the_twelfth_stretch(self):
        self.assertEqual(ask(*TWELVE, ("stops",)), [[k] for k in range(1, 13)] + [TWELVE_TOLD])

    def test_a_thirteenth_is_refused_and_changes_nothing(self):
        self.assertEqual(ask(*TWELVE, ("stop", 5000, 5001), ("stops",))[12:], [[-3], TWELVE_TOLD])
        self.assertEqual(ask(*TWELVE, ("stop", 11, 98), ("stops",))[12:], [[-3], TWELVE_TOLD])

    def test_with_twelve_told_one_that_touches_is_no_thirteenth(self):
        self.assertEqual(ask(*TWELVE, ("stop", 10, 20), ("stops",))[12:], [[12], [12, 0, 20] + TWELVE_TOLD[3:]])
        self.assertEqual(ask(*TWELVE, ("stop", 10, 99), ("stops",))[12:], [[11], [11, 0, 109] + TWELVE_TOLD[5:]])
        self.assertEqual(ask(*TWELVE, ("stop", 5, 6), ("stops",))[12:], [[12], TWELVE_TOLD])

    def test_a_number_out_of_range_is_told_before_too_many(self):
        self.assertEqual(ask(*TWELVE, ("stop", 5001, 5000))[12], [-1])
        self.assertEqual(ask(*TWELVE, ("go", 5, 4))[12], [-1])
        self.assertEqual(ask(*TWELVE, ("stop", 5000, 9001))[12], [-1])

    def test_after_a_refusal_it_goes_on(self):
        self.assertEqual(ask(*TWELVE, ("stop", 5000, 5001), ("go", 0, 9), ("stop", 5000, 5001))[12:], [[-3], [11], [12]])


class GoTest(unittest.TestCase):
    def test_where_none_stood_still(self):
        self.assertEqual(ask(("go", 0, 100), ("stops",)), [[0], [0]])
        self.assertEqual(ask(("stop", 10, 20), ("go", 0, 9), ("go", 21, 30), ("stops",)), [[1], [1], [1], [1, 10, 20]])

    def test_a_whole_stretch(self):
        self.assertEqual(ask(("stop", 10, 20), ("go", 10, 20), ("stops",)), [[1], [0], [0]])
        self.assertEqual(ask(("stop", 10, 20), ("go", 5, 25), ("stops",)), [[1], [0], [0]])

    def test_a_stretch_cut_at_its_ends(self):
        self.assertEqual(last_stops(("stop", 10, 20), ("go", 5, 10)), [1, 11, 20])
        self.assertEqual(last_stops(("stop", 10, 20), ("go", 10, 15)), [1, 16, 20])
        self.assertEqual(last_stops(("stop", 10, 20), ("go", 20, 25)), [1, 10, 19])
        self.assertEqual(last_stops(("stop", 10, 20), ("go", 15, 20)), [1, 10, 14])

    def test_a_stretch_cut_in_two(self):
        self.assertEqual(ask(("stop", 10, 20), ("go", 15, 15), ("stops",)), [[1], [2], [2, 10, 14, 16, 20]])
        self.assertEqual(ask(("stop", 10, 20), ("go", 11, 19), ("stops",)), [[1], [2], [2, 10, 10, 20, 20]])

    def test_over_several_stretches(self):
        three = (("stop", 10, 20), ("stop", 30, 40), ("stop", 50, 60))
        self.assertEqual(last_stops(*three, ("go", 15, 55)), [2, 10, 14, 56, 60])
        self.assertEqual(last_stops(*three, ("go", 20, 30)), [3, 10, 19, 31, 40, 50, 60])
        self.assertEqual(last_stops(*three, ("go", 25, 45)), [2, 10, 20, 50, 60])
        self.assertEqual(last_stops(*three, ("go", 0, 100)), [0])

    def test_the_ends_of_the_range(self):
        self.assertEqual(last_stops(("stop", 0, 4000), ("go", 0, 4000)), [0])
        self.assertEqual(last_stops(("stop", LAST_DAY - 1, LAST_DAY), ("go", LAST_DAY, LAST_DAY)), [1, LAST_DAY - 1, LAST_DAY - 1])
        self.assertEqual(last_stops(("stop", 0, 1), ("go", 0, 0)), [1, 1, 1])

    def test_a_cut_that_would_make_a_thirteenth_is_refused_and_changes_nothing(self):
        self.assertEqual(ask(*TWELVE, ("go", 505, 505), ("stops",))[12:], [[-3], TWELVE_TOLD])

    def test_a_cut_that_makes_a_twelfth(self):
        found = ask(*TWELVE[:11], ("go", 5, 5), ("stops",))
        self.assertEqual(found[11:], [[12], [12, 0, 4, 6, 9] + TWELVE_TOLD[3:-2]])

    def test_with_twelve_told_a_stretch_may_be_cut_short(self):
        self.assertEqual(ask(*TWELVE, ("go", 5, 9), ("stops",))[12:], [[12], [12, 0, 4] + TWELVE_TOLD[3:]])
        self.assertEqual(ask(*TWELVE, ("go", 5, 105))[12], [12])


class StillTest(unittest.TestCase):
    def test_no_time_stands_still_before_the_first_call(self):
        self.assertEqual(ask(("still", 0, 0), ("still", 0, LAST_DAY), ("still", 5, 9)), [[0]] * 3)

    def test_both_days_are_counted(self):
        found = ask(("stop", 10, 20), *[("still", *days) for days in ((10, 20), (10, 10), (20, 20), (9, 10), (20, 21), (11, 19))])
        self.assertEqual(found[1:], [[11], [1], [1], [1], [1], [9]])

    def test_days_beside_a_stretch(self):
        found = ask(("stop", 10, 20), ("still", 0, 9), ("still", 9, 9), ("still", 21, 21), ("still", 21, LAST_DAY))
        self.assertEqual(found[1:], [[0]] * 4)

    def test_round_a_stretch_and_over_its_ends(self):
        found = ask(("stop", 10, 20), ("still", 0, 100), ("still", 5, 14), ("still", 15, 40), ("still", 0, LAST_DAY))
        self.assertEqual(found[1:], [[11], [5], [6], [11]])

    def test_over_several_stretches(self):
        found = ask(("stop", 50, 60), ("stop", 10, 20), ("stop", 30, 30), ("still", 0, 100), ("still", 15, 55), ("still", 21, 49),
                    ("still", 20, 30), ("still", 31, 49), ("still", 30, 60))
        self.assertEqual(found[3:], [[23], [13], [1], [2], [0], [12]])

    def test_twelve_stretches(self):
        self.assertEqual(ask(*TWELVE, ("still", 0, LAST_DAY), ("still", 5, 1104))[12:], [[120], [110]])

    def test_no_bound_but_the_last_day_told(self):
        stops = [("stop", first, first + 4000) for first in range(0, 120000, 4001)]
        found = ask(*stops, ("still", 0, LAST_DAY), ("still", 100, 100000))
        self.assertEqual(found[-2:], [[4001 * len(stops)], [99901]])

    def test_time_that_goes_on_again(self):
        self.assertEqual(ask(("stop", 10, 20), ("go", 12, 15), ("still", 0, 30), ("go", 0, 30), ("still", 0, 30))[2::2], [[7], [0]])

    def test_the_first_and_last_day_told(self):
        found = ask(("stop", 0, 0), ("stop", LAST_DAY, LAST_DAY), ("still", 0, 0), ("still", LAST_DAY, LAST_DAY),
                    ("still", 0, LAST_DAY), ("still", 1, LAST_DAY - 1))
        self.assertEqual(found[2:], [[1], [1], [2], [0]])

    def test_out_of_range(self):
        for wrong in ((-1, 5), (5, 4), (0, -1), (0, LAST_DAY + 1), (LAST_DAY + 1, LAST_DAY + 1), (LAST_DAY, LAST_DAY - 1)):
            self.assertEqual(one("still", *wrong), [-1])


class ManyChangesTest(unittest.TestCase):
    def test_against_a_set_of_days(self):
        source = random.Random(11)
        for turn in range(60):
            days = set()
            calls = []
            expected = []
            for step in range(60):
                first = source.randrange(120)
                last = first + source.randrange(source.choice((1, 4, 30)))
                name = source.choice(("stop", "stop", "go"))
                told = set(range(first, last + 1))
                changed = days | told if name == "stop" else days - told
                calls.append((name, first, last))
                if len(runs(changed)) > 12:
                    expected.append([-3])
                else:
                    days = changed
                    expected.append([len(runs(days))])
                calls.append(("stops",))
                expected.append([len(runs(days))] + [number for run in runs(days) for number in run])
            self.assertEqual(ask(*calls), expected)


if __name__ == "__main__":
    unittest.main()

import unittest

from tests.helper import LAST_DAY, LAST_RECKONED, ask, ask_limits, one

FIRST_MINUTE = 1440
LAST_MINUTE = 210378240
THIRTY = [("act", k % 10, k % 4, 1440 + 7 * k) for k in range(30)]
THIRTY_TOLD = [30] + [number for k in range(30) for number in (k % 10, k % 4, 1440 + 7 * k)]
WEEKENDS = "rest sat;rest sun;"


def at(number, minute=0):
    """The minute of a day by clocks that are ahead by 0."""
    return 1440 * number + minute


def last(*calls):
    return ask(*calls)[-1]


class ActTest(unittest.TestCase):
    def test_none_before_the_first_call(self):
        self.assertEqual(one("acts"), [0])

    def test_acts_are_numbered_from_0_in_the_order_told(self):
        found = ask(("act", 3, 1, 5000), ("act", 0, 0, 1440), ("act", 9, 3, 5000), ("acts",))
        self.assertEqual(found, [[0], [1], [2], [3, 3, 1, 5000, 0, 0, 1440, 9, 3, 5000]])

    def test_the_same_act_again_is_one_more(self):
        self.assertEqual(ask(("act", 3, 1, 5000), ("act", 3, 1, 5000), ("acts",)), [[0], [1], [2, 3, 1, 5000, 3, 1, 5000]])

    def test_the_ends_of_each_range(self):
        self.assertEqual(ask(("act", 0, 0, FIRST_MINUTE), ("act", 9, 3, LAST_MINUTE), ("acts",)),
                         [[0], [1], [2, 0, 0, FIRST_MINUTE, 9, 3, LAST_MINUTE]])

    def test_out_of_range_and_nothing_changes(self):
        for wrong in ((-1, 0, 1440), (10, 0, 1440), (0, -1, 1440), (0, 4, 1440), (0, 0, 1439), (0, 0, 210378241), (0, 0, 0)):
            self.assertEqual(ask(("act", 1, 2, 3000), ("act", *wrong), ("acts",), ("act", 1, 2, 3000)),
                             [[0], [-1], [1, 1, 2, 3000], [1]])

    def test_the_thirtieth_act(self):
        self.assertEqual(ask(*THIRTY, ("acts",)), [[k] for k in range(30)] + [THIRTY_TOLD])

    def test_the_thirty_first_is_refused_and_changes_nothing(self):
        self.assertEqual(ask(*THIRTY, ("act", 0, 0, 1440), ("act", 0, 0, 1440), ("acts",))[30:], [[-3], [-3], THIRTY_TOLD])

    def test_a_number_out_of_range_is_told_before_too_many(self):
        self.assertEqual(last(*THIRTY, ("act", 10, 0, 1440)), [-1])
        self.assertEqual(last(*THIRTY, ("act", 0, 4, 1440)), [-1])
        self.assertEqual(last(*THIRTY, ("act", 0, 0, 1439)), [-1])

    def test_an_act_s_minute_stays_when_the_land_is_told_anew(self):
        self.assertEqual(ask(("act", 1, 2, 3000), ("land", 2, 60, 5, WEEKENDS), ("acts",)), [[0], [2], [1, 1, 2, 3000]])


class ClockTest(unittest.TestCase):
    def test_clocks_ahead_by_0(self):
        self.assertEqual(ask(("clock", 0, 1440), ("clock", 3, 1441), ("clock", 0, 2879), ("clock", 0, 2880)),
                         [[1, 0], [1, 1], [1, 1439], [2, 0]])

    def test_clocks_ahead_across_midnight(self):
        found = ask(("land", 1, 60, 0, ""), *[("clock", 1, at(5, minute)) for minute in (0, 1379, 1380, 1439)])
        self.assertEqual(found[1:], [[5, 60], [5, 1439], [6, 0], [6, 59]])

    def test_clocks_behind_across_midnight(self):
        found = ask(("land", 1, -60, 0, ""), *[("clock", 1, at(5, minute)) for minute in (0, 59, 60, 1439)])
        self.assertEqual(found[1:], [[4, 1380], [4, 1439], [5, 0], [5, 1379]])

    def test_clocks_as_far_ahead_and_behind_as_may_be(self):
        self.assertEqual(ask(("land", 2, 840, 0, ""), ("clock", 2, at(5, 599)), ("clock", 2, at(5, 600)))[1:], [[5, 1439], [6, 0]])
        self.assertEqual(ask(("land", 2, -720, 0, ""), ("clock", 2, at(5, 719)), ("clock", 2, at(5, 720)))[1:], [[4, 1439], [5, 0]])

    def test_the_first_and_the_last_minute(self):
        found = ask(("land", 1, -720, 0, ""), ("land", 2, 840, 0, ""), *[("clock", a, FIRST_MINUTE) for a in range(4)],
                    *[("clock", a, LAST_MINUTE) for a in range(4)])
        self.assertEqual(found[2:], [[1, 0], [0, 720], [1, 840], [1, 0],
                                     [146096, 0], [146095, 720], [146096, 840], [146096, 0]])

    def test_each_land_has_its_own_clocks(self):
        found = ask(("land", 0, 1, 0, ""), ("land", 3, -1, 0, ""), *[("clock", a, at(5)) for a in range(4)])
        self.assertEqual(found[2:], [[5, 1], [5, 0], [5, 0], [4, 1439]])

    def test_out_of_range(self):
        for wrong in ((-1, 1440), (4, 1440), (0, 1439), (0, 210378241), (0, -1)):
            self.assertEqual(one("clock", *wrong), [-1])


class MetTest(unittest.TestCase):
    def test_from_the_first_day_to_the_end(self):
        for number, expected in ((9, [0]), (10, [1, 0, 10]), (12, [1, 0, 12]), (15, [1, 0, 15]), (16, [0])):
            for minute in (0, 700, 1439):
                found = ask_limits(["start+5d"], ("act", 0, 0, at(number, minute)), ("met", 0, 0, 10, 0))
                self.assertEqual(found, [[0], expected])

    def test_no_acts(self):
        self.assertEqual(ask_limits(["start+5d"], ("met", 0, 0, 10, 0)), [[0]])

    def test_acts_of_other_kinds(self):
        calls = (("act", 1, 0, at(10)), ("act", 3, 0, at(11)), ("act", 2, 0, at(12)))
        found = ask_limits(["start+5d"], *calls, *[("met", 0, 0, 10, kind) for kind in range(10)])
        self.assertEqual(found[3:], [[0], [1, 0, 10], [1, 2, 12], [1, 1, 11]] + [[0]] * 6)

    def test_acts_of_other_lands(self):
        calls = (("act", 0, 1, at(10)), ("act", 0, 3, at(11)), ("act", 0, 2, at(12)))
        found = ask_limits(["start+5d"], *calls, *[("met", 0, a, 10, 0) for a in range(4)])
        self.assertEqual(found[3:], [[0], [1, 0, 10], [1, 2, 12], [1, 1, 11]])

    def test_the_first_by_its_minute(self):
        calls = (("act", 0, 0, at(14)), ("act", 0, 0, at(12, 5)), ("act", 0, 0, at(12, 4)), ("act", 0, 0, at(13)))
        self.assertEqual(ask_limits(["start+5d"], *calls, ("met", 0, 0, 10, 0))[-1], [1, 2, 12])

    def test_of_one_minute_the_first_told(self):
        calls = (("act", 0, 0, at(14)), ("act", 1, 0, at(12)), ("act", 0, 1, at(12)), ("act", 0, 0, at(12)), ("act", 0, 0, at(12)))
        self.assertEqual(ask_limits(["start+5d"], *calls, ("met", 0, 0, 10, 0))[-1], [1, 3, 12])

    def test_acts_before_the_first_day_and_behind_the_end_are_passed_over(self):
        calls = (("act", 0, 0, at(9, 1439)), ("act", 0, 0, at(16)), ("act", 0, 0, at(15, 1439)), ("act", 0, 0, at(3)))
        self.assertEqual(ask_limits(["start+5d"], *calls, ("met", 0, 0, 10, 0))[-1], [1, 2, 15])

    def test_clocks_ahead_across_midnight(self):
        for minute, expected in ((at(15, 1379), [1, 0, 15]), (at(15, 1380), [0]), (at(9, 1379), [0]), (at(9, 1380), [1, 0, 10])):
            found = ask_limits(["start+5d"], ("land", 1, 60, 0, ""), ("act", 0, 1, minute), ("met", 0, 1, 10, 0))
            self.assertEqual(found[-1], expected)

    def test_clocks_behind_across_midnight(self):
        for minute, expected in ((at(16, 59), [1, 0, 15]), (at(16, 60), [0]), (at(10, 59), [0]), (at(10, 60), [1, 0, 10])):
            found = ask_limits(["start+5d"], ("land", 1, -60, 0, ""), ("act", 0, 1, minute), ("met", 0, 1, 10, 0))
            self.assertEqual(found[-1], expected)

    def test_clocks_told_behind_the_act_hold(self):
        found = ask_limits(["start"], ("act", 0, 1, at(10, 1439)), ("met", 0, 1, 10, 0), ("land", 1, 1, 0, ""), ("met", 0, 1, 10, 0),
                           ("met", 0, 1, 11, 0))
        self.assertEqual([found[k] for k in (1, 3, 4)], [[1, 0, 10], [0], [1, 0, 11]])

    def test_by_the_calendar_of_the_land(self):
        found = ask_limits(["open(start)"], ("land", 2, 0, 0, WEEKENDS), ("act", 0, 2, at(9)), ("act", 0, 1, at(9)),
                           ("met", 0, 2, 7, 0), ("met", 0, 1, 7, 0))
        self.assertEqual(found[3:], [[1, 0, 9], [0]])

    def test_an_end_before_the_first_day(self):
        # Days 7 and 8 are a Saturday and a Sunday.
        acts = [("act", 0, 0, at(number)) for number in (6, 7, 8, 9)]
        self.assertEqual(ask_limits(["back(start)"], ("land", 0, 0, 0, WEEKENDS), *acts, ("met", 0, 0, 8, 0))[-1], [0])
        self.assertEqual(ask_limits(["back(start)"], ("land", 0, 0, 0, WEEKENDS), *acts, ("met", 0, 0, 6, 0))[-1], [1, 0, 6])

    def test_a_limit_without_an_end(self):
        found = ask_limits(["start+400y", "start+100y"], ("act", 0, 0, LAST_MINUTE), ("met", 0, 0, LAST_DAY, 0),
                           ("met", 1, 0, LAST_DAY, 0), ("end", 1, 0, LAST_DAY))
        self.assertEqual(found[1:], [[0], [1, 0, LAST_DAY], [LAST_RECKONED]])

    def test_day_0(self):
        found = ask_limits(["start"], ("land", 0, -720, 0, ""), ("act", 0, 0, 1440), ("met", 0, 0, 0, 0), ("met", 0, 0, 1, 0))
        self.assertEqual(found[2:], [[1, 0, 0], [0]])

    def test_no_limit_is_told_there(self):
        self.assertEqual(ask(*[("met", place, 0, 5, 0) for place in range(6)]), [[-8]] * 6)

    def test_out_of_range(self):
        for wrong in ((-1, 0, 5, 0), (6, 0, 5, 0), (0, -1, 5, 0), (0, 4, 5, 0), (0, 0, -1, 0), (0, 0, LAST_DAY + 1, 0),
                      (0, 0, 5, -1), (0, 0, 5, 10)):
            self.assertEqual(one("met", *wrong), [-1])
            self.assertEqual(ask_limits(["start"], ("met", *wrong)), [[-1]])


class AnywhereTest(unittest.TestCase):
    def test_no_acts(self):
        self.assertEqual(ask_limits(["start+5d"], ("anywhere", 0, 10, 0)), [[0]])

    def test_in_whichever_land(self):
        for a in range(4):
            found = ask_limits(["start+5d"], ("act", 7, a, at(12)), ("anywhere", 0, 10, 7), ("anywhere", 0, 10, 6),
                               ("anywhere", 0, 13, 7), ("anywhere", 0, 6, 7))
            self.assertEqual(found[1:], [[1, 0, 12], [0], [0], [0]])

    def test_from_the_first_day_to_the_end(self):
        for number, expected in ((9, [0]), (10, [1, 0, 10]), (15, [1, 0, 15]), (16, [0])):
            self.assertEqual(ask_limits(["start+5d"], ("act", 0, 2, at(number, 1439)), ("anywhere", 0, 10, 0))[-1], expected)

    def test_the_first_by_its_minute_over_all_lands(self):
        calls = (("act", 0, 0, at(14)), ("act", 0, 3, at(12, 5)), ("act", 0, 1, at(12, 4)), ("act", 0, 2, at(13)))
        self.assertEqual(ask_limits(["start+5d"], *calls, ("anywhere", 0, 10, 0))[-1], [1, 2, 12])

    def test_by_the_minute_and_not_by_the_day_there(self):
        # The act in land 1 is on the later day there, but its minute is the earlier one.
        calls = (("land", 1, 840, 0, ""), ("land", 2, -720, 0, ""), ("act", 0, 2, at(12, 700)), ("act", 0, 1, at(12, 650)))
        self.assertEqual(ask_limits(["start+5d"], *calls, ("anywhere", 0, 10, 0))[-1], [1, 1, 13])

    def test_of_one_minute_the_first_told(self):
        calls = (("act", 1, 0, at(12)), ("act", 0, 3, at(12)), ("act", 0, 0, at(12)))
        self.assertEqual(ask_limits(["start+5d"], *calls, ("anywhere", 0, 10, 0))[-1], [1, 1, 12])
        self.assertEqual(ask_limits(["start+1d"], *calls, ("anywhere", 0, 10, 0))[-1], [0])

    def test_each_act_by_the_clocks_of_its_own_land(self):
        lands = (("land", 0, 60, 0, ""), ("land", 1, -60, 0, ""))
        calls = lands + (("act", 0, 0, at(15, 1380)), ("act", 0, 2, at(16)), ("act", 0, 1, at(16, 59)))
        self.assertEqual(ask_limits(["start+5d"], *calls, ("anywhere", 0, 10, 0))[-1], [1, 2, 15])

    def test_each_act_by_the_end_in_its_own_land(self):
        lands = (("land", 0, 0, 2, ""), ("land", 1, 0, 9, ""), ("land", 2, 0, 5, ""))
        calls = lands + (("act", 0, 3, at(11)), ("act", 0, 0, at(13)), ("act", 0, 2, at(16)), ("act", 0, 1, at(19)))
        self.assertEqual(ask_limits(["receipt(start)"], *calls, ("anywhere", 0, 10, 0))[-1], [1, 3, 19])

    def test_a_land_without_an_end(self):
        # Land 0 has no open day up to day 1, land 1 has.
        calls = (("land", 0, 0, 0, WEEKENDS), ("act", 0, 0, at(1)), ("act", 0, 1, at(1, 9)))
        self.assertEqual(ask_limits(["back(start)"], *calls, ("anywhere", 0, 1, 0))[-1], [1, 1, 1])
        self.assertEqual(ask_limits(["back(start)"], *calls[:2], ("anywhere", 0, 1, 0))[-1], [0])
        self.assertEqual(ask_limits(["start+400y"], ("act", 0, 0, LAST_MINUTE), ("anywhere", 0, LAST_DAY, 0))[-1], [0])

    def test_no_limit_is_told_there(self):
        self.assertEqual(ask(*[("anywhere", place, 5, 0) for place in range(6)]), [[-8]] * 6)

    def test_out_of_range(self):
        for wrong in ((-1, 5, 0), (6, 5, 0), (0, -1, 0), (0, LAST_DAY + 1, 0), (0, 5, -1), (0, 5, 10)):
            self.assertEqual(one("anywhere", *wrong), [-1])
            self.assertEqual(ask_limits(["start"], ("anywhere", *wrong)), [[-1]])


if __name__ == "__main__":
    unittest.main()

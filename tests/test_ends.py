import unittest

from tests.helper import LAST_DAY, LAST_RECKONED, ask, ask_limits, day, one

ALL_BUT_MONDAY = "rest tue;rest wed;rest thu;rest fri;rest sat;rest sun;"
WEEKENDS = "rest sat;rest sun;"


def ends(text, *begins, land="", post=0, stops=()):
    """The ends of a limit begun on these days in land 0."""
    found = ask(("land", 0, 0, post, land), ("limit", 0, text), *[("stop", *stop) for stop in stops],
                *[("end", 0, 0, begin) for begin in begins])
    if [answer[0] for answer in found[:2 + len(stops)] if answer[0] < 0]:
        raise AssertionError(f"refused: {text}, {land}, {stops}")
    return [answer[0] for answer in found[2 + len(stops):]]


def end(text, begin, **told):
    return ends(text, begin, **told)[0]


class EndTest(unittest.TestCase):
    def test_the_example(self):
        found = ask(("land", 0, 0, 0, "rest sun;moved feast 1/1;"), ("limit", 0, "open(start+1m)"), ("end", 0, 0, 8371))
        self.assertEqual(found, [[2], [0], [8403]])

    def test_start(self):
        self.assertEqual(ends("start", 0, 5, LAST_DAY, land=ALL_BUT_MONDAY, post=9, stops=[(0, 9)]), [0, 5, LAST_DAY])

    def test_each_land_by_its_own_calendar_and_post(self):
        found = ask(("land", 1, 0, 3, WEEKENDS), ("land", 2, 0, 30, ALL_BUT_MONDAY), ("limit", 4, "open(receipt(start))"),
                    *[("end", 4, a, 6) for a in range(4)])
        self.assertEqual(found[3:], [[6], [9], [37], [6]])

    def test_a_land_told_anew(self):
        found = ask(("limit", 0, "open(receipt(start))"), ("end", 0, 0, 0), ("land", 0, 0, 1, WEEKENDS), ("end", 0, 0, 0),
                    ("land", 0, 0, 0, ""), ("end", 0, 0, 0))
        self.assertEqual([found[k] for k in (1, 3, 5)], [[0], [2], [0]])

    def test_no_limit_is_told_there(self):
        self.assertEqual(ask(*[("end", place, 0, 5) for place in range(6)]), [[-8]] * 6)
        self.assertEqual(ask(("limit", 1, "start"), ("end", 0, 0, 5), ("end", 1, 0, 5)), [[0], [-8], [5]])

    def test_out_of_range(self):
        for wrong in ((-1, 0, 5), (6, 0, 5), (0, -1, 5), (0, 4, 5), (0, 0, -1), (0, 0, LAST_DAY + 1)):
            self.assertEqual(one("end", *wrong), [-1])
            self.assertEqual(ask_limits(["start"], ("end", *wrong)), [[-1]])

    def test_no_end_is_told_behind_the_other_refusals(self):
        self.assertEqual(ask_limits(["start+400y"], ("end", 0, 4, 5), ("end", 1, 0, 5), ("end", 0, 0, LAST_DAY)),
                         [[-1], [-8], [-9]])


class AdditionTest(unittest.TestCase):
    def test_days(self):
        self.assertEqual(ends("start+1d", 0, 58, 59), [1, 59, 60])
        self.assertEqual(ends("start+400d", 0, LAST_DAY), [400, LAST_DAY + 400])

    def test_weeks(self):
        self.assertEqual(ends("start+1w", 0, 10), [7, 17])
        self.assertEqual(ends("start+400w", 0, 10), [2800, 2810])

    def test_months(self):
        self.assertEqual(end("start+1m", day(2024, 3, 5)), day(2024, 4, 5))
        self.assertEqual(end("start+10m", day(2024, 3, 5)), day(2025, 1, 5))
        self.assertEqual(end("start+9m", day(2024, 3, 5)), day(2024, 12, 5))
        self.assertEqual(end("start+400m", day(2024, 3, 5)), day(2057, 7, 5))

    def test_months_from_the_last_days_of_a_month(self):
        for date, later in ((28, 28), (29, 29), (30, 29), (31, 29)):
            self.assertEqual(end("start+1m", day(2024, 1, date)), day(2024, 2, later))
        for date in (28, 29, 30, 31):
            self.assertEqual(end("start+1m", day(2023, 1, date)), day(2023, 2, 28))
        self.assertEqual(end("start+1m", day(2024, 3, 31)), day(2024, 4, 30))
        self.assertEqual(end("start+1m", day(2024, 4, 30)), day(2024, 5, 30))

    def test_additions_are_made_from_the_left(self):
        self.assertEqual(end("start+1m+1m", day(2023, 1, 31)), day(2023, 3, 28))
        self.assertEqual(end("start+2m", day(2023, 1, 31)), day(2023, 3, 31))
        self.assertEqual(end("start+1d+1m", day(2023, 1, 31)), day(2023, 3, 1))
        self.assertEqual(end("start+1m+1d", day(2023, 1, 30)), day(2023, 3, 1))
        self.assertEqual(end("start+1d+1m", day(2023, 1, 30)), day(2023, 2, 28))
        self.assertEqual(end("start+1o+1d", 5, land=WEEKENDS), 7)
        self.assertEqual(end("start+1d+1o", 5, land=WEEKENDS), 9)

    def test_years(self):
        self.assertEqual(end("start+1y", day(2024, 2, 29)), day(2025, 2, 28))
        self.assertEqual(end("start+4y", day(2024, 2, 29)), day(2028, 2, 29))
        self.assertEqual(end("start+76y", day(2024, 2, 29)), day(2100, 2, 28))
        self.assertEqual(end("start+1y+3y", day(2024, 2, 29)), day(2028, 2, 28))
        self.assertEqual(end("start+400y", 0), day(2400, 1, 1))

    def test_open_days(self):
        self.assertEqual(ends("start+1o", 0, 1, 2, 5, 6, land=WEEKENDS), [2, 2, 3, 6, 9])
        self.assertEqual(ends("start+5o", 2, 0, land=WEEKENDS), [9, 6])
        self.assertEqual(ends("start+20o", 2, 3, land=WEEKENDS), [30, 31])
        self.assertEqual(ends("start+20o", 0, 9), [20, 29])
        self.assertEqual(end("start+20o", 2, land=ALL_BUT_MONDAY), 142)
        self.assertEqual(end("start+1o", 8400, land="rest sun;moved feast 1/1;"), 8403)

    def test_additions_behind_brackets(self):
        self.assertEqual(end("open(start)+1d", 0, land=WEEKENDS), 3)
        self.assertEqual(end("open(start+1d)+1d", 0, land=WEEKENDS), 3)
        self.assertEqual(end("open(start+2d)+5d", 0, land=WEEKENDS), 7)
        self.assertEqual(end("later(start,start+2d)+5d", 0), 7)

    def test_the_longest_limit_of_open_days(self):
        self.assertEqual(end("start" + "+20o" * 23, 2, land=ALL_BUT_MONDAY), 2 + 7 * 460)


class BaseTest(unittest.TestCase):
    def test_receipt(self):
        self.assertEqual(ends("receipt(start)", 0, 7, post=3), [3, 10])
        self.assertEqual(ends("receipt(start)", 0, 7, post=0), [0, 7])
        self.assertEqual(ends("receipt(start)", 0, LAST_DAY, post=30), [30, LAST_DAY + 30])
        self.assertEqual(end("receipt(start+1m)", day(2023, 1, 31), post=3), day(2023, 3, 3))
        self.assertEqual(end("receipt(start)+1m", day(2023, 1, 31), post=3), day(2023, 3, 3))
        self.assertEqual(end("receipt(receipt(start))", 5, post=30), 65)

    def test_receipt_counts_closed_days(self):
        self.assertEqual(end("receipt(start)", 6, post=2, land=WEEKENDS), 8)

    def test_open(self):
        self.assertEqual(ends("open(start)", 0, 1, 2, 6, 7, land=WEEKENDS), [2, 2, 2, 6, 9])
        self.assertEqual(ends("open(start)", 0, LAST_DAY), [0, LAST_DAY])

    def test_open_behind_the_last_day_told(self):
        self.assertEqual(end("open(start)", LAST_DAY, land="rest fri;feast 1/1;"), LAST_DAY + 2)

    def test_back(self):
        self.assertEqual(ends("back(start)", 9, 8, 7, 6, 2, land=WEEKENDS), [9, 6, 6, 6, 2])
        self.assertEqual(end("back(start+1m)", 8371, land="rest sun;moved feast 1/1;"), 8400)

    def test_back_where_no_open_day_lies_up_to_it(self):
        self.assertEqual(ends("back(start)", 0, 1, 2, land=WEEKENDS), [-9, -9, 2])
        self.assertEqual(ends("back(start)+1d", 0, 1, 2, land=WEEKENDS), [-9, -9, 3])
        self.assertEqual(ends("open(back(start))", 0, 1, 2, land=WEEKENDS), [-9, -9, 2])
        self.assertEqual(ends("back(open(start))", 0, 1, 2, land=WEEKENDS), [2, 2, 2])
        self.assertEqual(end("back(start)", 0, land="shut 2000/1/1;"), -9)
        self.assertEqual(end("back(start)", 0, land="rest sat;open 2000/1/1;"), 0)

    def test_back_on_either_of_both_sides(self):
        for word in ("later", "earlier"):
            self.assertEqual(ends(f"{word}(back(start),start)", 1, 2, land=WEEKENDS), [-9, 2])
            self.assertEqual(ends(f"{word}(start,back(start))", 1, 2, land=WEEKENDS), [-9, 2])

    def test_month(self):
        self.assertEqual(ends("month(start)", 0, 30, 31, 59), [30, 30, 59, 59])
        for year, last in ((2023, 28), (2024, 29), (2100, 28), (2000, 29)):
            self.assertEqual(end("month(start)", day(year, 2, 1)), day(year, 2, last))
        for month, last in enumerate((31, 28, 31, 30, 31, 30, 31, 31, 30, 31, 30, 31), start=1):
            self.assertEqual(ends("month(start)", day(2023, month, 1), day(2023, month, last)), [day(2023, month, last)] * 2)
        self.assertEqual(end("month(start)", LAST_DAY), LAST_DAY)
        self.assertEqual(end("month(month(start)+1d)", 0), 59)

    def test_later_and_earlier(self):
        for begin in (day(2023, 2, 10), day(2024, 2, 10), day(2024, 3, 10)):
            month = end("start+1m", begin)
            for word, choice in (("later", max), ("earlier", min)):
                self.assertEqual(end(f"{word}(start+1m,start+29d)", begin), choice(month, begin + 29))
                self.assertEqual(end(f"{word}(start+29d,start+1m)", begin), choice(month, begin + 29))
        self.assertEqual(ends("later(start,start)", 0, 9), [0, 9])
        self.assertEqual(ends("earlier(start+1w,start+7d)", 0, 9), [7, 16])

    def test_one_within_another(self):
        self.assertEqual(end("later(earlier(start+9d,start+5d),earlier(start+7d,start+6d))", 10), 16)
        self.assertEqual(end("earlier(later(start+9d,start+5d),later(start+7d,start+6d))", 10), 17)
        self.assertEqual(end("later(start+1d,later(start+4d,earlier(start+3d,start+2d)))+1d", 10), 15)

    def test_start_is_the_limits_own_first_day_in_all_brackets(self):
        self.assertEqual(end("later(start+1d,open(start+3d)+1d)", 0, land=WEEKENDS), 4)
        self.assertEqual(end("earlier(start+9d,going(later(start+2d,start+4d)))", 10, stops=[(12, 12)]), 15)

    def test_twelve_deep(self):
        self.assertEqual(end("receipt(" * 7 + "start" + ")" * 7, 5, post=2), 19)
        self.assertEqual(end("open(" * 11 + "start" + ")" * 11, 0, land=WEEKENDS), 2)
        self.assertEqual(end("back(" * 10 + "receipt(start)" + ")" * 10, 7, land=WEEKENDS, post=1), 6)


class LastReckonedTest(unittest.TestCase):
    def test_the_last_day_reckoned_is_an_end(self):
        self.assertEqual(end("start+100y", LAST_DAY), LAST_RECKONED)
        self.assertEqual(ends("start+100y+1d", LAST_DAY - 1, LAST_DAY), [LAST_RECKONED, -9])
        self.assertEqual(ends("start+100y+1w", LAST_DAY - 7, LAST_DAY - 6), [LAST_RECKONED, -9])
        self.assertEqual(end("start+400m+400m+400m+1d", LAST_DAY), LAST_RECKONED)
        self.assertEqual(end("start+400m+400m+400m+2d", LAST_DAY), -9)
        self.assertEqual(end("start+400m+400m+400m+1m", LAST_DAY), -9)
        self.assertEqual(ends("start+101y", day(2398, 12, 31), day(2399, 1, 1)), [LAST_RECKONED, -9])
        self.assertEqual(ends("start+400y", day(2099, 12, 31), day(2100, 1, 1)), [LAST_RECKONED, -9])

    def test_open_days_there(self):
        self.assertEqual(ends("start+100y+1o", LAST_DAY - 1, LAST_DAY), [LAST_RECKONED, -9])
        self.assertEqual(ends("start+100y+20o", LAST_DAY - 20, LAST_DAY - 19), [LAST_RECKONED, -9])

    def test_receipt_there(self):
        self.assertEqual(ends("receipt(start+100y)", LAST_DAY - 3, LAST_DAY - 2, LAST_DAY, post=3), [LAST_RECKONED, -9, -9])

    def test_open_there(self):
        # December 31, 2499 is a Thursday.
        self.assertEqual(ends("open(start+100y)", LAST_DAY, land="rest wed;"), [LAST_RECKONED])
        self.assertEqual(ends("open(start+100y)", LAST_DAY - 1, LAST_DAY, land="rest wed;"), [LAST_RECKONED] * 2)
        self.assertEqual(ends("open(start+100y)", LAST_DAY - 1, LAST_DAY, land="rest thu;"), [LAST_RECKONED - 1, -9])
        self.assertEqual(ends("open(start+100y)", LAST_DAY - 1, LAST_DAY, land="feast 12/31;"), [LAST_RECKONED - 1, -9])
        self.assertEqual(ends("open(start+100y)", LAST_DAY, land="feast 12/31 2000-2399;"), [LAST_RECKONED])

    def test_back_and_month_there(self):
        self.assertEqual(end("back(start+100y)", LAST_DAY, land="rest thu;"), LAST_RECKONED - 1)
        self.assertEqual(ends("month(start+100y)", LAST_DAY - 30, LAST_DAY), [LAST_RECKONED] * 2)

    def test_going_there(self):
        self.assertEqual(end("going(start+100y)", LAST_DAY), LAST_RECKONED)
        self.assertEqual(ends("going(start+100y)", LAST_DAY - 1, stops=[(LAST_DAY, LAST_DAY)]), [LAST_RECKONED])
        self.assertEqual(ends("going(start+100y)", LAST_DAY - 2, LAST_DAY - 1, LAST_DAY, stops=[(LAST_DAY - 1, LAST_DAY)]),
                         [LAST_RECKONED, LAST_RECKONED, LAST_RECKONED])
        self.assertEqual(ends("going(start+100y+1d)", LAST_DAY - 2, LAST_DAY - 1, LAST_DAY, stops=[(LAST_DAY - 1, LAST_DAY)]),
                         [-9, -9, -9])

    def test_on_the_way(self):
        for text in ("back(start+100y+1d)", "month(start+100y+1d)", "going(start+100y+1d)", "open(start+100y+1d)",
                     "receipt(start+100y+1d)", "start+100y+1d+1d", "start+400y+400y+400y", "back(open(start+100y)+1o)"):
            self.assertEqual(end(text, LAST_DAY), -9)

    def test_on_the_way_back(self):
        # The day behind the last one reckoned would be closed, and the last one reckoned the last open day up to it.
        self.assertEqual(ends("back(start+100y+1d)", LAST_DAY - 1, LAST_DAY, land="feast 1/1;"), [LAST_RECKONED, -9])
        self.assertEqual(ends("back(receipt(start+100y))", LAST_DAY - 1, LAST_DAY, land="feast 1/1;", post=1),
                         [LAST_RECKONED, -9])

    def test_on_either_of_both_sides(self):
        for word in ("later", "earlier"):
            for text in (f"{word}(start,start+100y+1d)", f"{word}(start+100y+1d,start)", f"{word}(start+400y,start+400y)",
                         f"back({word}(start,start+100y+1d))", f"{word}(start,back(start+100y+1d))"):
                self.assertEqual(end(text, LAST_DAY), -9)
            self.assertEqual(end(f"{word}(start+100y,start+100y)", LAST_DAY), LAST_RECKONED)
        self.assertEqual(end("later(start,start+100y)", LAST_DAY), LAST_RECKONED)
        self.assertEqual(end("earlier(start,start+100y)", LAST_DAY), LAST_DAY)

    def test_years_far_behind(self):
        self.assertEqual(end("start" + "+400y" * 19, 0), -9)
        self.assertEqual(end("start" + "+400w" * 19, LAST_DAY), -9)


class GoingTest(unittest.TestCase):
    def test_no_time_stands_still(self):
        self.assertEqual(ends("going(start+5d)", 0, 10), [5, 15])

    def test_a_stretch_between(self):
        self.assertEqual(end("going(start+5d)", 10, stops=[(12, 13)]), 17)
        self.assertEqual(end("going(start+5d)", 10, stops=[(11, 11)]), 16)

    def test_a_stretch_on_the_end(self):
        self.assertEqual(end("going(start+5d)", 10, stops=[(15, 15)]), 16)
        self.assertEqual(end("going(start+5d)", 10, stops=[(15, 24)]), 25)
        self.assertEqual(end("going(start+5d)", 10, stops=[(14, 24)]), 26)

    def test_a_stretch_wholly_behind_the_end(self):
        self.assertEqual(end("going(start+5d)", 10, stops=[(16, 24)]), 15)
        self.assertEqual(end("going(start+5d)", 10, stops=[(400, 500)]), 15)

    def test_a_stretch_wholly_before_the_first_day(self):
        self.assertEqual(end("going(start+5d)", 10, stops=[(2, 9)]), 15)
        self.assertEqual(end("going(start+5d)", 10, stops=[(2, 8)]), 15)

    def test_the_first_day_itself_counts_for_nothing(self):
        self.assertEqual(end("going(start+5d)", 10, stops=[(10, 10)]), 15)
        self.assertEqual(end("going(start+5d)", 10, stops=[(2, 10)]), 15)

    def test_a_stretch_that_begins_before_the_first_day_or_on_it(self):
        self.assertEqual(end("going(start+5d)", 10, stops=[(2, 13)]), 18)
        self.assertEqual(end("going(start+5d)", 10, stops=[(10, 13)]), 18)
        self.assertEqual(end("going(start+5d)", 10, stops=[(2, 11)]), 16)
        self.assertEqual(end("going(start+5d)", 10, stops=[(2, 30)]), 35)
        self.assertEqual(end("going(start+1d)", 10, stops=[(0, 4000), (4001, 8000)]), 8001)

    def test_stretches_within_reach_only_because_others_were_made_good(self):
        self.assertEqual(end("going(start+5d)", 10, stops=[(12, 13), (16, 18)]), 20)
        self.assertEqual(end("going(start+5d)", 10, stops=[(12, 13), (17, 18)]), 19)
        self.assertEqual(end("going(start+5d)", 10, stops=[(12, 13), (18, 19)]), 17)
        self.assertEqual(end("going(start+5d)", 10, stops=[(15, 15), (17, 17)]), 16)
        self.assertEqual(end("going(start+5d)", 10, stops=[(14, 15), (17, 17), (19, 20), (22, 30)]), 18)
        self.assertEqual(end("going(start+6d)", 10, stops=[(14, 15), (17, 17), (19, 20), (22, 30)]), 21)
        self.assertEqual(end("going(start+7d)", 10, stops=[(14, 15), (17, 17), (19, 20), (22, 30)]), 31)

    def test_twelve_stretches_one_after_another(self):
        stops = [(12 + 2 * k, 12 + 2 * k) for k in range(12)]
        self.assertEqual(end("going(start+2d)", 10, stops=stops), 13)
        self.assertEqual(end("going(start+12d)", 10, stops=stops), 33)
        self.assertEqual(end("going(start+13d)", 10, stops=stops), 35)
        self.assertEqual(end("going(start+14d)", 10, stops=list(reversed(stops))), 36)

    def test_an_end_on_the_first_day(self):
        self.assertEqual(end("going(start)", 10, stops=[(5, 20)]), 10)
        self.assertEqual(end("going(start)", 10, stops=[(11, 20)]), 10)
        self.assertEqual(end("going(start)", 10), 10)

    def test_an_end_before_the_first_day(self):
        # Days 7 and 8 are a Saturday and a Sunday.
        self.assertEqual(end("going(back(start))", 8, land=WEEKENDS), 6)
        for stop in ((5, 20), (6, 8), (7, 7), (9, 20), (8, 9)):
            self.assertEqual(end("going(back(start))", 8, land=WEEKENDS, stops=[stop]), 6)
        self.assertEqual(end("going(back(start))+1d", 8, land=WEEKENDS, stops=[(5, 20)]), 7)

    def test_what_comes_behind_is_not_put_off(self):
        self.assertEqual(end("going(start+2d)+3d", 10, stops=[(11, 11), (14, 20)]), 16)
        self.assertEqual(end("going(start+2d+3d)", 10, stops=[(11, 11), (14, 20)]), 23)

    def test_going_within_going(self):
        # 10 days are 12 by the stretch; these 12, counted from the first day anew, are 14.
        self.assertEqual(end("going(start+10d)", 10, stops=[(15, 16)]), 22)
        self.assertEqual(end("going(going(start+10d))", 10, stops=[(15, 16)]), 24)

    def test_the_end_may_be_closed(self):
        self.assertEqual(end("going(start+5d)", 2, land=WEEKENDS), 7)
        self.assertEqual(end("going(start+4d)", 2, land=WEEKENDS, stops=[(4, 4)]), 7)
        self.assertEqual(end("open(going(start+4d))", 2, land=WEEKENDS, stops=[(4, 4)]), 9)

    def test_other_words_do_not_stand_still(self):
        for text, expected in (("start+5d", 15), ("open(start+5d)", 15), ("receipt(start+3d)", 15), ("back(start+5d)", 15),
                               ("start+5o", 15), ("month(start)", 30)):
            self.assertEqual(end(text, 10, post=2, stops=[(11, 25)]), expected)

    def test_stretches_hold_for_all_lands(self):
        found = ask(("stop", 12, 13), ("limit", 0, "going(start+5d)"), *[("end", 0, a, 10) for a in range(4)])
        self.assertEqual(found[2:], [[17]] * 4)

    def test_time_that_goes_on_again(self):
        found = ask(("limit", 0, "going(start+5d)"), ("stop", 11, 20), ("end", 0, 0, 10), ("go", 13, 18), ("end", 0, 0, 10),
                    ("go", 0, 99), ("end", 0, 0, 10))
        self.assertEqual([found[k] for k in (2, 4, 6)], [[25], [17], [15]])


if __name__ == "__main__":
    unittest.main()

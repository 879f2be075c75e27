import unittest

from tests.helper import LAST_DAY, LAST_RECKONED, ask, ask_limits, day, one

WEEKENDS = "rest sat;rest sun;"


def both(texts, *calls):
    """The answers on limits in land 0, which is closed on Saturdays and Sundays."""
    return ask_limits(texts, ("land", 0, 0, 0, WEEKENDS), *calls)[1:]


class LatestTest(unittest.TestCase):
    def test_the_last_day_that_ends_in_time(self):
        self.assertEqual(ask_limits(["start+5d"], ("latest", 0, 0, 100), ("latest", 0, 3, 5), ("latest", 0, 0, LAST_DAY)),
                         [[95], [0], [LAST_DAY - 5]])
        self.assertEqual(ask_limits(["start"], ("latest", 0, 0, 0), ("latest", 0, 0, 100)), [[0], [100]])

    def test_an_end_on_the_day_itself_is_in_time(self):
        # Day 9 is a Monday: begun on the Saturday, the Sunday or the Monday itself, the limit ends on it.
        self.assertEqual(both(["open(start)"], ("latest", 0, 0, 9), ("latest", 0, 0, 8), ("latest", 0, 0, 7)), [[9], [6], [6]])

    def test_of_several_days_the_last(self):
        self.assertEqual(both(["open(start+1d)"], ("latest", 0, 0, 9), ("latest", 0, 0, 8), ("latest", 0, 0, 6)),
                         [[8], [5], [5]])

    def test_an_end_before_its_first_day(self):
        self.assertEqual(both(["back(start)"], ("latest", 0, 0, 8), ("latest", 0, 0, 7)), [[8], [7]])

    def test_months_of_unlike_length(self):
        last = day(2023, 2, 28)
        self.assertEqual(ask_limits(["start+1m"], ("latest", 0, 0, last), ("latest", 0, 0, last - 1)),
                         [[day(2023, 1, 31)], [day(2023, 1, 27)]])

    def test_near_day_0(self):
        self.assertEqual(ask_limits(["start+5d"], *[("latest", 0, 0, x) for x in (0, 4, 5, 6)]), [[-5], [-5], [0], [1]])
        self.assertEqual(ask_limits(["start+199d"], ("latest", 0, 0, 198), ("latest", 0, 0, 199), ("latest", 0, 0, 200)),
                         [[-5], [0], [1]])

    def test_days_without_an_end_near_day_0(self):
        self.assertEqual(both(["back(start)"], ("latest", 0, 0, 0), ("latest", 0, 0, 1), ("latest", 0, 0, 2)),
                         [[-5], [-5], [2]])

    def test_a_distance_of_200_and_201(self):
        for x in (200, 201, 500, LAST_DAY):
            self.assertEqual(ask_limits(["start+200d"], ("latest", 0, 0, x)), [[x - 200]])
            self.assertEqual(ask_limits(["start+201d"], ("latest", 0, 0, x)), [[-5]])

    def test_a_later_day_without_an_end_is_passed_over(self):
        # No limit begun on January 2, 2399 or later ends on a day that is reckoned.
        text = "earlier(start,start+101y)"
        last = day(2398, 12, 31)
        self.assertEqual(ask_limits([text], ("latest", 0, 0, last), ("latest", 0, 0, last + 5), ("latest", 0, 0, last + 200),
                                    ("latest", 0, 0, last + 201)), [[last], [last], [last], [-5]])

    def test_a_later_day_may_end_earlier(self):
        # Begun on day 10, the limit stands still; begun on day 20, it goes on.
        calls = (("limit", 0, "going(start+1d)"), ("stop", 11, 19), ("latest", 0, 0, 19), ("latest", 0, 0, 20),
                 ("latest", 0, 0, 21))
        self.assertEqual(ask(*calls)[2:], [[9], [19], [20]])

    def test_by_the_land(self):
        found = ask(("land", 1, 0, 7, WEEKENDS), ("limit", 2, "open(receipt(start))"), *[("latest", 2, a, 50) for a in (0, 1)])
        # Days 49 and 50 are a Saturday and a Sunday, so that 42 and 43 end on the Monday behind them.
        self.assertEqual(found[2:], [[50], [41]])

    def test_no_limit_is_told_there(self):
        self.assertEqual(ask(*[("latest", place, 0, 5) for place in range(6)]), [[-8]] * 6)

    def test_out_of_range(self):
        for wrong in ((-1, 0, 5), (6, 0, 5), (0, -1, 5), (0, 4, 5), (0, 0, -1), (0, 0, LAST_DAY + 1)):
            self.assertEqual(one("latest", *wrong), [-1])
            self.assertEqual(ask_limits(["start+400d"], ("latest", *wrong)), [[-1]])

    def test_refusals_in_order(self):
        self.assertEqual(ask_limits(["start+400d"], ("latest", 1, 0, -1), ("latest", 1, 0, 5), ("latest", 0, 0, 5)),
                         [[-1], [-8], [-5]])


class SameTest(unittest.TestCase):
    def test_ends_alike(self):
        self.assertEqual(ask_limits(["start+7d", "start+1w"], ("same", 0, 1, 0, 0, 60), ("same", 1, 0, 3, 5, 5)), [[1], [1]])
        self.assertEqual(ask_limits(["start+12m", "start+1y"], ("same", 0, 1, 0, day(2024, 2, 1), day(2024, 3, 31))), [[1]])

    def test_a_limit_with_itself(self):
        self.assertEqual(ask_limits(["open(start+1m)"], ("same", 0, 0, 0, 0, 60)), [[1]])

    def test_the_first_day_on_which_they_do_not(self):
        first = day(2023, 1, 1)
        self.assertEqual(ask_limits(["start+1m+1m", "start+2m"], ("same", 0, 1, 0, first, first + 60)), [[0, day(2023, 1, 29)]])
        self.assertEqual(both(["start", "open(start)"], ("same", 0, 1, 0, 2, 62), ("same", 0, 1, 0, 2, 6), ("same", 1, 0, 0, 8, 9)),
                         [[0, 7], [1], [0, 8]])

    def test_both_days_are_tried(self):
        self.assertEqual(both(["start", "open(start)"], ("same", 0, 1, 0, 2, 7), ("same", 0, 1, 0, 8, 8), ("same", 0, 1, 0, 9, 13),
                              ("same", 0, 1, 0, 8, 13)), [[0, 7], [0, 8], [1], [0, 8]])

    def test_sixty_days_later(self):
        stop = ("stop", 161, 161)
        found = ask(("limit", 0, "start+1d"), ("limit", 1, "going(start+1d)"), stop, ("same", 0, 1, 0, 100, 160),
                    ("same", 0, 1, 0, 100, 159), ("same", 0, 1, 0, 99, 159))
        self.assertEqual(found[3:], [[0, 160], [1], [1]])

    def test_one_has_no_end(self):
        self.assertEqual(both(["start", "back(start)"], ("same", 0, 1, 0, 0, 6), ("same", 1, 0, 0, 1, 6), ("same", 0, 1, 0, 2, 6)),
                         [[0, 0], [0, 1], [1]])
        last = day(2398, 12, 31)
        self.assertEqual(ask_limits(["start", "earlier(start,start+101y)"], ("same", 0, 1, 0, last - 5, last + 5),
                                    ("same", 1, 0, 0, last - 5, last)), [[0, last + 1], [1]])

    def test_both_have_no_end(self):
        self.assertEqual(ask_limits(["start+400y", "start+399y"], ("same", 0, 1, 0, LAST_DAY - 60, LAST_DAY)), [[1]])
        self.assertEqual(both(["back(start)", "back(start)+1d"], ("same", 0, 1, 0, 0, 1),
                              ("same", 0, 1, 0, 0, 2)), [[1], [0, 2]])

    def test_by_the_land(self):
        found = ask(("land", 1, 0, 0, WEEKENDS), ("land", 2, 0, 1, ""), ("limit", 0, "open(start)"), ("limit", 1, "receipt(start)"),
                    *[("same", 0, 1, a, 2, 20) for a in range(4)])
        self.assertEqual(found[4:], [[1], [0, 7], [0, 2], [1]])

    def test_no_limit_is_told_there(self):
        self.assertEqual(one("same", 0, 1, 0, 0, 5), [-8])
        self.assertEqual(ask_limits(["start"], ("same", 0, 1, 0, 0, 5), ("same", 1, 0, 0, 0, 5), ("same", 5, 5, 0, 0, 5)),
                         [[-8]] * 3)

    def test_out_of_range(self):
        for name in ("same", "never"):
            for wrong in ((-1, 0, 0, 5, 9), (6, 0, 0, 5, 9), (0, -1, 0, 5, 9), (0, 6, 0, 5, 9), (0, 0, -1, 5, 9), (0, 0, 4, 5, 9),
                          (0, 0, 0, -1, 9), (0, 0, 0, 5, 4), (0, 0, 0, 5, 66), (0, 0, 0, LAST_DAY, LAST_DAY + 1),
                          (0, 0, 0, LAST_DAY + 1, LAST_DAY + 1), (0, 0, 0, LAST_DAY - 30, LAST_DAY + 1), (0, 0, 0, 0, -1)):
                self.assertEqual(one(name, *wrong), [-1])
                self.assertEqual(ask_limits(["start"], (name, *wrong)), [[-1]])
            self.assertEqual(ask_limits(["start"], (name, 0, 0, 0, 5, 65), (name, 0, 0, 0, 5, 5),
                                        (name, 0, 0, 0, LAST_DAY - 60, LAST_DAY)), [[1]] * 3)


class NeverTest(unittest.TestCase):
    def test_earlier_or_alike(self):
        self.assertEqual(ask_limits(["start+6d", "start+1w", "start+7d"], ("never", 0, 1, 0, 0, 60), ("never", 2, 1, 0, 0, 60),
                                    ("never", 1, 2, 0, 0, 60), ("never", 1, 0, 0, 0, 60), ("never", 1, 0, 0, 7, 8)),
                         [[1], [1], [1], [0, 0], [0, 7]])

    def test_the_first_day_on_which_it_ends_later(self):
        first = day(2023, 1, 1)
        self.assertEqual(ask_limits(["start+1m+1m", "start+2m"], ("never", 0, 1, 0, first, first + 60),
                                    ("never", 1, 0, 0, first, first + 60)), [[1], [0, day(2023, 1, 29)]])

    def test_both_days_are_tried(self):
        self.assertEqual(both(["open(start)", "start"], ("never", 0, 1, 0, 2, 6), ("never", 0, 1, 0, 2, 7), ("never", 0, 1, 0, 8, 12),
                              ("never", 1, 0, 0, 2, 62)), [[1], [0, 7], [0, 8], [1]])
        found = ask(("limit", 0, "going(start+1d)"), ("limit", 1, "start+1d"), ("stop", 161, 161), ("never", 0, 1, 0, 100, 160),
                    ("never", 0, 1, 0, 100, 159))
        self.assertEqual(found[3:], [[0, 160], [1]])

    def test_one_has_no_end(self):
        # On days 0 and 1 there is no open day to go back to.
        self.assertEqual(both(["back(start)", "start+400d"], ("never", 0, 1, 0, 0, 9), ("never", 0, 1, 0, 1, 9),
                              ("never", 0, 1, 0, 2, 9), ("never", 1, 0, 0, 0, 1), ("never", 1, 0, 0, 0, 9)),
                         [[0, 0], [0, 1], [1], [1], [0, 2]])
        self.assertEqual(ask_limits(["start+100y", "start+101y"], ("never", 0, 1, 0, LAST_DAY, LAST_DAY),
                                    ("never", 1, 0, 0, LAST_DAY, LAST_DAY), ("end", 0, 0, LAST_DAY)),
                         [[1], [0, LAST_DAY], [LAST_RECKONED]])

    def test_both_have_no_end(self):
        self.assertEqual(ask_limits(["start+400y", "start+399y"], ("never", 0, 1, 0, LAST_DAY - 60, LAST_DAY),
                                    ("never", 1, 0, 0, LAST_DAY - 60, LAST_DAY)), [[1], [1]])

    def test_by_the_land(self):
        found = ask(("land", 1, 0, 0, WEEKENDS), ("limit", 3, "open(start)"), ("limit", 5, "start"),
                    *[("never", 3, 5, a, 2, 20) for a in range(4)])
        self.assertEqual(found[3:], [[1], [0, 7], [1], [1]])

    def test_no_limit_is_told_there(self):
        self.assertEqual(one("never", 0, 1, 0, 0, 5), [-8])
        self.assertEqual(ask_limits(["start"], ("never", 0, 1, 0, 0, 5), ("never", 1, 0, 0, 0, 5), ("never", 5, 5, 0, 0, 5)),
                         [[-8]] * 3)


class EndsTest(unittest.TestCase):
    def test_alike_in_all_lands(self):
        self.assertEqual(ask_limits(["start+5d"], ("ends", 0, 10)), [[15, 15, 15, 15, 0]])

    def test_the_first_land_with_the_last_end(self):
        for posts, first in (((3, 1, 2, 0), 0), ((0, 3, 1, 2), 1), ((1, 2, 3, 0), 2), ((0, 1, 2, 3), 3), ((3, 0, 3, 1), 0),
                             ((0, 3, 3, 3), 1), ((0, 1, 3, 3), 2), ((3, 3, 0, 0), 0), ((2, 2, 2, 3), 3)):
            found = ask(*[("land", a, 0, post, "") for a, post in enumerate(posts)], ("limit", 0, "receipt(start)"), ("ends", 0, 10))
            self.assertEqual(found[-1], [10 + post for post in posts] + [first])

    def test_by_the_calendars(self):
        found = ask(("land", 0, 0, 0, WEEKENDS), ("land", 2, 0, 0, "rest sat;"), ("limit", 1, "open(start)"), ("ends", 1, 7),
                    ("ends", 1, 8), ("ends", 1, 9))
        self.assertEqual(found[3:], [[9, 7, 8, 7, 0], [9, 8, 8, 8, 0], [9, 9, 9, 9, 0]])

    def test_one_land_has_no_end(self):
        for a in range(4):
            found = ask(("land", a, 0, 0, WEEKENDS), ("limit", 0, "back(start)"), ("ends", 0, 1), ("ends", 0, 2))
            self.assertEqual(found[2:], [[-9], [2, 2, 2, 2, 0]])
            found = ask(("land", a, 0, 1, ""), ("limit", 0, "receipt(start+100y)"), ("ends", 0, LAST_DAY), ("ends", 0, LAST_DAY - 1))
            expected = [LAST_RECKONED - 1] * 4
            expected[a] = LAST_RECKONED
            self.assertEqual(found[2:], [[-9], expected + [a]])

    def test_no_land_has_an_end(self):
        self.assertEqual(ask_limits(["start+400y"], ("ends", 0, LAST_DAY)), [[-9]])

    def test_no_limit_is_told_there(self):
        self.assertEqual(ask(*[("ends", place, 5) for place in range(6)]), [[-8]] * 6)

    def test_out_of_range(self):
        for wrong in ((-1, 5), (6, 5), (0, -1), (0, LAST_DAY + 1)):
            self.assertEqual(one("ends", *wrong), [-1])
            self.assertEqual(ask_limits(["start+400y"], ("ends", *wrong)), [[-1]])


if __name__ == "__main__":
    unittest.main()

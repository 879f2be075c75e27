import unittest

from tests.helper import LAST_DAY, ask, ask_land, day, one

ALL_BUT_MONDAY = "rest tue;rest wed;rest thu;rest fri;rest sat;rest sun;"


def feasts(text, year):
    """The pairs of a feast's day and the day closed for it."""
    found = ask_land(text, ("feasts", 0, year))[0]
    pairs = list(zip(found[1::2], found[2::2]))
    if found[0] != len(pairs) or len(found) != 1 + 2 * len(pairs):
        raise AssertionError(f"the count is wrong: {found}")
    return pairs


def feast_days(text, year):
    return [pair[0] for pair in feasts(text, year)]


def closed(text, *days):
    return [found[0] for found in ask_land(text, *[("closed", 0, number) for number in days])]


class FeastRuleTest(unittest.TestCase):
    def test_no_feasts(self):
        self.assertEqual(one("feasts", 0, 2023), [0])
        self.assertEqual(ask_land("rest sun;shut 2023/1/1;open 2023/1/2;", ("feasts", 0, 2023)), [[0]])

    def test_the_example(self):
        self.assertEqual(ask_land("rest sun;moved feast 1/1;", ("feasts", 0, 2023)), [[1, 8401, 8402]])

    def test_a_date(self):
        self.assertEqual(feasts("feast 12/25;", 2023), [(day(2023, 12, 25), day(2023, 12, 25))])
        self.assertEqual(feasts("feast 1/1;", 2000), [(0, 0)])
        self.assertEqual(feasts("feast 12/31;", 2399), [(LAST_DAY, LAST_DAY)])

    def test_a_date_that_only_leap_years_have(self):
        for year in (2000, 2004, 2024, 2396):
            self.assertEqual(feast_days("feast 2/29;", year), [day(year, 2, 29)])
        for year in (2001, 2023, 2100, 2200, 2300, 2399):
            self.assertEqual(ask_land("feast 2/29;", ("feasts", 0, year)), [[0]])
        self.assertEqual(feast_days("feast 2/29;feast 3/1;", 2100), [day(2100, 3, 1)])

    def test_days_around_the_moon_sunday(self):
        sunday = day(2024, 3, 31)
        self.assertEqual(feast_days("feast easter;feast easter-2;feast easter+1;feast easter+39;feast easter+80;"
                                    "feast easter-80;feast easter-1;", 2024),
                         [sunday, sunday - 2, sunday + 1, sunday + 39, sunday + 80, sunday - 80, sunday - 1])

    def test_the_earliest_moon_sunday_reaches_back_to_january_1(self):
        self.assertEqual(feast_days("feast easter-80;", 2285), [day(2285, 1, 1)])
        self.assertEqual(closed("feast easter-80;", day(2284, 12, 31), day(2285, 1, 1), day(2285, 1, 2)), [0, 1, 0])

    def test_the_kth_of_a_weekday(self):
        self.assertEqual(feast_days("feast 1 mon 5;feast 2 mon 5;feast 3 mon 5;feast 4 mon 5;feast 5 mon 5;", 2023),
                         [day(2023, 5, number) for number in (1, 8, 15, 22, 29)])
        self.assertEqual(feast_days("feast 1 sun 5;feast 4 sun 5;", 2023), [day(2023, 5, 7), day(2023, 5, 28)])
        self.assertEqual(feast_days("feast 4 thu 11;", 2024), [day(2024, 11, 28)])

    def test_the_fifth_of_a_weekday_that_a_month_does_not_have(self):
        self.assertEqual(ask_land("feast 5 sun 5;", ("feasts", 0, 2023)), [[0]])
        self.assertEqual(feast_days("feast 5 thu 2;", 2024), [day(2024, 2, 29)])
        self.assertEqual(ask_land("feast 5 thu 2;", ("feasts", 0, 2023)), [[0]])
        self.assertEqual(feast_days("feast 5 sun 12;", 2023), [day(2023, 12, 31)])
        self.assertEqual(ask_land("feast 5 mon 12;", ("feasts", 0, 2023)), [[0]])

    def test_the_last_of_a_weekday(self):
        self.assertEqual(feast_days("feast last mon 5;feast last wed 5;feast last thu 5;", 2023),
                         [day(2023, 5, 29), day(2023, 5, 31), day(2023, 5, 25)])
        self.assertEqual(feast_days("feast last thu 2;", 2024), [day(2024, 2, 29)])
        self.assertEqual(feast_days("feast last thu 2;", 2023), [day(2023, 2, 23)])
        self.assertEqual(feast_days("feast last sun 12;feast last mon 12;", 2023), [day(2023, 12, 31), day(2023, 12, 25)])

    def test_the_first_of_a_weekday_from_a_date_on(self):
        self.assertEqual(feast_days("feast sat from 6/20;", 2020), [day(2020, 6, 20)])
        self.assertEqual(feast_days("feast sat from 6/20;", 2021), [day(2021, 6, 26)])
        self.assertEqual(feast_days("feast fri from 6/20;", 2020), [day(2020, 6, 26)])
        self.assertEqual(feast_days("feast sun from 6/20;", 2020), [day(2020, 6, 21)])

    def test_a_weekday_from_a_date_that_only_leap_years_have(self):
        self.assertEqual(feast_days("feast fri from 2/29;", 2024), [day(2024, 3, 1)])
        self.assertEqual(feast_days("feast thu from 2/29;", 2024), [day(2024, 2, 29)])
        for year in (2023, 2100, 2399):
            self.assertEqual(ask_land("feast fri from 2/29;", ("feasts", 0, year)), [[0]])

    def test_the_years_of_a_feast(self):
        for when in ("1/2", "easter", "2 wed 7", "last fri 3", "mon from 5/5"):
            for kind in ("feast", "moved feast"):
                text = f"{kind} {when} 2010-2012;"
                counts = [found[0] for found in ask_land(text, *[("feasts", 0, year) for year in range(2008, 2015)])]
                self.assertEqual(counts, [0, 0, 1, 1, 1, 0, 0])

    def test_a_feast_of_one_year(self):
        found = ask_land("feast 1/1 2000-2000;feast 1/2 2399-2399;", ("feasts", 0, 2000), ("feasts", 0, 2001),
                         ("feasts", 0, 2398), ("feasts", 0, 2399))
        first = day(2399, 1, 2)
        self.assertEqual(found, [[1, 0, 0], [0], [0], [1, first, first]])

    def test_feasts_stand_in_the_order_of_the_text(self):
        self.assertEqual(feast_days("feast 12/25;feast 1/1;rest sun;feast easter;feast 5/1;", 2024),
                         [day(2024, 12, 25), day(2024, 1, 1), day(2024, 3, 31), day(2024, 5, 1)])

    def test_a_feast_told_twice_is_found_twice(self):
        self.assertEqual(feasts("feast 5/1;feast 5/1;", 2024), [(day(2024, 5, 1),) * 2] * 2)

    def test_twenty_feasts(self):
        self.assertEqual(feasts("moved feast 5/1;" * 20, 2024), [(day(2024, 5, 1), day(2024, 5, 1) + k) for k in range(20)])

    def test_out_of_range(self):
        for a, year in ((-1, 2000), (4, 2000), (0, 1999), (0, 2400)):
            self.assertEqual(one("feasts", a, year), [-1])


class MovedFeastTest(unittest.TestCase):
    def test_a_moved_feast_on_no_day_of_rest_stays(self):
        self.assertEqual(feasts("rest sun;moved feast 1/2;", 2023), [(8402, 8402)])

    def test_a_feast_that_is_not_moved_stays_on_a_day_of_rest(self):
        self.assertEqual(feasts("rest sun;feast 1/1;", 2023), [(8401, 8401)])

    def test_over_several_days_of_rest(self):
        self.assertEqual(feasts("rest sat;rest sun;moved feast 1/1;", 2022), [(day(2022, 1, 1), day(2022, 1, 3))])
        self.assertEqual(feasts(ALL_BUT_MONDAY + "moved feast 5/2;", 2023), [(day(2023, 5, 2), day(2023, 5, 8))])

    def test_days_of_rest_told_behind_the_feast_count(self):
        self.assertEqual(feasts("moved feast 1/1;rest sun;", 2023), [(8401, 8402)])

    def test_onto_a_day_closed_for_a_feast_found_before(self):
        self.assertEqual(feasts("rest sun;feast 1/2;moved feast 1/1;", 2023), [(8402, 8402), (8401, 8403)])
        self.assertEqual(feasts("feast 5/1;moved feast 5/1;", 2023), [(day(2023, 5, 1), day(2023, 5, 1)),
                                                                     (day(2023, 5, 1), day(2023, 5, 2))])

    def test_a_feast_found_later_does_not_move_it(self):
        self.assertEqual(feasts("rest sun;moved feast 1/1;feast 1/2;", 2023), [(8401, 8402), (8402, 8402)])
        self.assertEqual(feasts("moved feast 5/1;feast 5/1;", 2023), [(day(2023, 5, 1), day(2023, 5, 1))] * 2)

    def test_a_feast_that_is_not_moved_meets_another(self):
        self.assertEqual(feasts("feast 5/1;feast 5/1;moved feast 5/1;", 2023)[2], (day(2023, 5, 1), day(2023, 5, 2)))

    def test_moved_feasts_that_meet_one_another(self):
        christmas = day(2022, 12, 25)
        self.assertEqual(feasts("rest sat;rest sun;moved feast 12/25;moved feast 12/26;", 2022),
                         [(christmas, christmas + 1), (christmas + 1, christmas + 2)])
        self.assertEqual(feasts("rest sat;rest sun;moved feast 12/26;moved feast 12/25;", 2022),
                         [(christmas + 1, christmas + 1), (christmas, christmas + 2)])

    def test_onto_a_day_that_a_moved_feast_took(self):
        self.assertEqual(feasts("feast 5/1;moved feast 5/1;moved feast 5/2;", 2023)[2], (day(2023, 5, 2), day(2023, 5, 3)))
        self.assertEqual(feasts("rest sun;moved feast 1/1;moved feast 1/1;", 2023), [(8401, 8402), (8401, 8403)])

    def test_over_rest_and_feasts_in_turn(self):
        # Friday and Monday are feasts, Saturday and Sunday days of rest.
        self.assertEqual(feasts("rest sat;rest sun;feast 4/7;feast 4/10;moved feast 4/7;", 2023)[2],
                         (day(2023, 4, 7), day(2023, 4, 11)))

    def test_shut_and_open_days_play_no_part(self):
        self.assertEqual(feasts("rest sun;shut 2023/1/2;moved feast 1/1;", 2023), [(8401, 8402)])
        self.assertEqual(feasts("rest sun;open 2023/1/1;moved feast 1/1;", 2023), [(8401, 8402)])
        self.assertEqual(feasts("rest sun;open 2023/1/2;moved feast 1/1;", 2023), [(8401, 8402)])
        self.assertEqual(feasts("feast 5/1;open 2023/5/1;moved feast 5/1;", 2023)[1], (day(2023, 5, 1), day(2023, 5, 2)))
        self.assertEqual(feasts("shut 2023/5/1;moved feast 5/1;", 2023), [(day(2023, 5, 1), day(2023, 5, 1))])

    def test_a_feast_that_the_year_does_not_have_moves_none(self):
        self.assertEqual(feasts("feast 5/1 2000-2022;moved feast 5/1;", 2023), [(day(2023, 5, 1), day(2023, 5, 1))])

    def test_into_the_next_year(self):
        # December 31, 2022 was a Saturday.
        self.assertEqual(feasts("rest sat;rest sun;moved feast 12/31;", 2022), [(day(2022, 12, 31), day(2023, 1, 2))])

    def test_feasts_of_another_year_do_not_move_it(self):
        # New Year 2023 is told closed for a feast of 2022, too; that was not found in 2023.
        text = "feast sun from 12/31;moved feast 1/1;"
        self.assertEqual(feasts(text, 2022), [(8401, 8401), (day(2022, 1, 1), day(2022, 1, 1))])
        self.assertEqual(feasts(text, 2023), [(day(2023, 12, 31), day(2023, 12, 31)), (8401, 8401)])
        # And a feast of 2022 does not make way for one of 2023.
        self.assertEqual(feasts("rest sat;feast 1/1;moved feast 12/31;", 2022)[1], (day(2022, 12, 31), 8401))

    def test_behind_the_last_day_told(self):
        # December 31, 2399 is a Friday.
        self.assertEqual(feasts("rest fri;moved feast 12/31;feast thu from 12/31;", 2399),
                         [(LAST_DAY, LAST_DAY + 1), (LAST_DAY + 6, LAST_DAY + 6)])


class ClosedTest(unittest.TestCase):
    def test_nothing_is_closed_before_the_first_call(self):
        self.assertEqual(ask(*[("closed", a, n) for a in range(4) for n in (0, 1, 2, 8401, LAST_DAY)]), [[0]] * 20)

    def test_the_example(self):
        self.assertEqual(closed("rest sun;moved feast 1/1;", 8402), [1])
        self.assertEqual(closed("rest sun;moved feast 1/1;", 8400, 8401, 8402, 8403), [0, 1, 1, 0])

    def test_each_day_of_rest(self):
        for weekday, name in enumerate(("mon", "tue", "wed", "thu", "fri", "sat", "sun")):
            self.assertEqual(closed(f"rest {name};", *range(2, 9)), [1 if k == weekday else 0 for k in range(7)])

    def test_days_of_rest_hold_in_all_years(self):
        self.assertEqual(closed("rest sat;", 0, 7, LAST_DAY - 6, LAST_DAY), [1, 1, 1, 0])
        self.assertEqual(closed("rest fri;", LAST_DAY - 7, LAST_DAY - 1, LAST_DAY), [1, 0, 1])

    def test_a_moved_feast_closes_the_day_it_is_moved_to(self):
        self.assertEqual(closed("feast 5/1;moved feast 5/1 2023-2023;", *range(day(2023, 5, 1), day(2023, 5, 4))), [1, 1, 0])

    def test_a_feast_on_a_day_told_open_still_moves_another(self):
        self.assertEqual(closed("open 2023/5/1;feast 5/1;moved feast 5/1;", *range(day(2023, 4, 30), day(2023, 5, 4))),
                         [0, 0, 1, 0])

    def test_shut_days(self):
        self.assertEqual(closed("shut 2024/2/29;", *range(8824, 8827)), [0, 1, 0])
        self.assertEqual(closed("shut 2000/1/1;shut 2399/12/31;", 0, 1, LAST_DAY - 1, LAST_DAY), [1, 0, 0, 1])

    def test_a_day_told_open_is_open_whatever_else_is_told(self):
        for text in ("rest sun;", "shut 2023/1/1;", "feast 1/1;", "rest sun;shut 2023/1/1;feast 1/1;feast 1 sun 1;"):
            self.assertEqual(closed(text, 8401), [1])
            self.assertEqual(closed(text + "open 2023/1/1;", 8401), [0])
            self.assertEqual(closed("open 2023/1/1;" + text, 8401), [0])

    def test_open_holds_for_that_day_alone(self):
        self.assertEqual(closed("rest sun;open 2023/1/1;", 8394, 8401, 8408), [1, 0, 1])
        self.assertEqual(closed("feast 1/1;open 2023/1/1;", day(2022, 1, 1), 8401, day(2024, 1, 1)), [1, 0, 1])

    def test_a_feast_of_the_year_before(self):
        # January 2, 2023 is closed for the moved feast of December 31, 2022.
        self.assertEqual(closed("rest sat;rest sun;moved feast 12/31;", 8401, 8402, 8403), [1, 1, 0])
        self.assertEqual(closed("feast sun from 12/31;", 8394, 8400, 8401, 8402, 8408), [0, 0, 1, 0, 0])

    def test_a_feast_of_the_year_before_holds_by_its_own_years(self):
        self.assertEqual(closed("feast sun from 12/31 2022-2022;", 8401), [1])
        self.assertEqual(closed("feast sun from 12/31 2023-2023;", 8401), [0])

    def test_both_years_close_days_of_their_own(self):
        # January 1, 2023 is a feast of 2022, and January 2 one of 2023.
        self.assertEqual(closed("feast sun from 12/31;feast 1/2;", 8400, 8401, 8402, 8403), [0, 1, 1, 0])

    def test_there_is_no_year_before_2000(self):
        # The Saturday from December 31, 1999 on would be January 1, 2000.
        self.assertEqual(closed("feast sat from 12/31;", 0), [0])
        self.assertEqual(closed("feast sat from 12/31;", day(2000, 12, 30), day(2001, 1, 6), day(2005, 1, 1)), [0, 1, 1])
        self.assertEqual(closed("rest fri;rest sat;moved feast 12/31;", 1, 2), [0, 0])

    def test_the_last_day_told(self):
        self.assertEqual(closed("feast 12/31;", LAST_DAY), [1])
        self.assertEqual(closed("feast last fri 12;", LAST_DAY), [1])
        self.assertEqual(closed("feast 12/31 2000-2398;", LAST_DAY), [0])

    def test_lands_have_calendars_of_their_own(self):
        found = ask(("land", 1, 0, 0, "rest sat;"), ("land", 3, 0, 0, "rest sun;"),
                    *[("closed", a, n) for a in range(4) for n in (0, 1)])
        self.assertEqual(found[2:], [[0], [0], [1], [0], [0], [0], [0], [1]])

    def test_out_of_range(self):
        for a, n in ((-1, 0), (4, 0), (0, -1), (0, LAST_DAY + 1)):
            self.assertEqual(one("closed", a, n), [-1])


class NextTest(unittest.TestCase):
    def test_the_day_itself_if_it_is_open(self):
        self.assertEqual(ask(("next", 0, 0), ("next", 3, LAST_DAY)), [[0], [LAST_DAY]])

    def test_over_closed_days(self):
        self.assertEqual(ask_land("rest sat;rest sun;", *[("next", 0, n) for n in (0, 1, 2, 6, 7)]),
                         [[2], [2], [2], [6], [9]])
        self.assertEqual(ask_land("rest sun;moved feast 1/1;", ("next", 0, 8401)), [[8403]])

    def test_a_day_told_open(self):
        self.assertEqual(ask_land("rest sat;rest sun;open 2000/1/2;", ("next", 0, 0)), [[1]])

    def test_behind_the_last_day_told(self):
        self.assertEqual(ask_land("rest fri;", ("next", 0, LAST_DAY)), [[LAST_DAY + 1]])
        self.assertEqual(ask_land("rest fri;feast 1/1;moved feast 12/31;", ("next", 0, LAST_DAY)), [[LAST_DAY + 2]])
        self.assertEqual(ask_land("feast 12/31;feast 1/1;feast easter-80;", ("next", 0, LAST_DAY)), [[LAST_DAY + 2]])

    def test_a_year_behind_the_last_one_told_has_feasts(self):
        # December 31, 2399 is a Friday, so that the first Monday behind it is January 3, 2400.
        self.assertEqual(ask_land(ALL_BUT_MONDAY, ("next", 0, LAST_DAY)), [[LAST_DAY + 3]])
        self.assertEqual(ask_land(ALL_BUT_MONDAY + "feast 1 mon 1;", ("next", 0, LAST_DAY)), [[LAST_DAY + 10]])
        self.assertEqual(ask_land(ALL_BUT_MONDAY + "feast 1 mon 1 2000-2399;", ("next", 0, LAST_DAY)), [[LAST_DAY + 3]])
        self.assertEqual(ask_land(ALL_BUT_MONDAY + "feast 1 mon 1;feast 2 mon 1;feast 3 mon 1;feast 4 mon 1;"
                                  "feast 5 mon 1;feast 1 mon 2;feast 2 mon 2;feast 3 mon 2;feast 4 mon 2;feast mon from 2/29;",
                                  ("next", 0, LAST_DAY)), [[LAST_DAY + 3 + 7 * 9 + 7]])

    def test_out_of_range(self):
        for a, n in ((-1, 0), (4, 0), (0, -1), (0, LAST_DAY + 1)):
            self.assertEqual(one("next", a, n), [-1])


class LastTest(unittest.TestCase):
    def test_the_day_itself_if_it_is_open(self):
        self.assertEqual(ask(("last", 0, 0), ("last", 3, LAST_DAY)), [[0], [LAST_DAY]])

    def test_over_closed_days(self):
        self.assertEqual(ask_land("rest sat;rest sun;", *[("last", 0, n) for n in (9, 8, 7, 6, 2)]),
                         [[9], [6], [6], [6], [2]])
        self.assertEqual(ask_land("rest sun;moved feast 1/1;", ("last", 0, 8402)), [[8400]])
        self.assertEqual(ask_land("rest fri;feast 12/30;", ("last", 0, LAST_DAY)), [[LAST_DAY - 2]])

    def test_none_from_day_0_on(self):
        self.assertEqual(ask_land("rest sat;rest sun;", ("last", 0, 0), ("last", 0, 1), ("last", 0, 2)), [[-5], [-5], [2]])
        self.assertEqual(ask_land("shut 2000/1/1;", ("last", 0, 0), ("last", 0, 1)), [[-5], [1]])
        self.assertEqual(ask_land("rest sun;shut 2000/1/1;", ("last", 0, 1)), [[-5]])

    def test_day_0_told_open(self):
        self.assertEqual(ask_land("rest sat;rest sun;open 2000/1/1;", ("last", 0, 1)), [[0]])

    def test_out_of_range(self):
        for a, n in ((-1, 0), (4, 0), (0, -1), (0, LAST_DAY + 1)):
            self.assertEqual(one("last", a, n), [-1])

    def test_a_number_out_of_range_is_told_before_none_is_found(self):
        self.assertEqual(ask_land("rest sat;", ("last", 4, 0), ("last", 0, -1)), [[-1], [-1]])


class OpensTest(unittest.TestCase):
    def test_both_days_are_counted(self):
        self.assertEqual(ask(("opens", 0, 0, 0), ("opens", 0, 0, 1), ("opens", 0, 5, 405), ("opens", 0, 7, 406)),
                         [[1], [2], [401], [400]])

    def test_closed_days_are_not(self):
        self.assertEqual(ask_land("rest sat;rest sun;", ("opens", 0, 0, 0), ("opens", 0, 0, 1), ("opens", 0, 0, 2),
                                  ("opens", 0, 2, 8), ("opens", 0, 1, 10)), [[0], [0], [1], [5], [7]])

    def test_a_year(self):
        text = "rest sat;rest sun;feast 1/1;feast 5/1;feast 12/25;feast easter+1;shut 2023/7/3;open 2023/7/8;"
        self.assertEqual(ask_land(text, ("opens", 0, 8401, 8401 + 364)), [[260 - 3 - 1 + 1]])

    def test_the_ends_of_the_range(self):
        self.assertEqual(ask(("opens", 0, 0, 400), ("opens", 0, LAST_DAY, LAST_DAY), ("opens", 3, LAST_DAY - 400, LAST_DAY)),
                         [[401], [1], [401]])

    def test_out_of_range(self):
        for a, n, m in ((-1, 0, 0), (4, 0, 0), (0, -1, 0), (0, LAST_DAY + 1, LAST_DAY + 1), (0, 5, 4), (0, 0, 401),
                        (0, 5, 406), (0, LAST_DAY, LAST_DAY + 1), (0, 0, -1), (0, LAST_DAY - 399, LAST_DAY + 1)):
            self.assertEqual(one("opens", a, n, m), [-1])


class KthTest(unittest.TestCase):
    def test_behind_the_day(self):
        self.assertEqual(ask(("kth", 0, 0, 1), ("kth", 0, 0, 2), ("kth", 0, 10, 60)), [[1], [2], [70]])

    def test_over_closed_days(self):
        self.assertEqual(ask_land("rest sat;rest sun;", ("kth", 0, 0, 1), ("kth", 0, 2, 1), ("kth", 0, 2, 4), ("kth", 0, 2, 5),
                                  ("kth", 0, 6, 1), ("kth", 0, 0, 60)), [[2], [3], [6], [9], [9], [83]])
        self.assertEqual(ask_land("rest sun;moved feast 1/1;", ("kth", 0, 8400, 1), ("kth", 0, 8400, 2)), [[8403], [8404]])

    def test_one_open_weekday(self):
        self.assertEqual(ask_land(ALL_BUT_MONDAY, ("kth", 0, 2, 1), ("kth", 0, 1, 1), ("kth", 0, 2, 60)),
                         [[9], [2], [2 + 420]])

    def test_behind_the_last_day_told(self):
        self.assertEqual(ask(("kth", 0, LAST_DAY, 60)), [[LAST_DAY + 60]])
        self.assertEqual(ask_land(ALL_BUT_MONDAY, ("kth", 0, LAST_DAY, 60)), [[LAST_DAY + 3 + 59 * 7]])

    def test_the_moon_sunday_behind_the_last_day_told(self):
        # Sundays alone are open. April 16, 2400, the moon Sunday, is the 16th of them behind the last day told.
        sundays = "rest mon;rest tue;rest wed;rest thu;rest fri;rest sat;feast easter;"
        self.assertEqual(ask_land(sundays, ("kth", 0, LAST_DAY, 15), ("kth", 0, LAST_DAY, 16)),
                         [[LAST_DAY + 2 + 7 * 14], [LAST_DAY + 2 + 7 * 16]])

    def test_out_of_range(self):
        for a, n, k in ((-1, 0, 1), (4, 0, 1), (0, -1, 1), (0, LAST_DAY + 1, 1), (0, 0, 0), (0, 0, 61)):
            self.assertEqual(one("kth", a, n, k), [-1])


if __name__ == "__main__":
    unittest.main()

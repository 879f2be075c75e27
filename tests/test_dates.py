import unittest

from tests.helper import LAST_DAY, LAST_RECKONED, ask, date, day, gauss_sunday, one


class DateTest(unittest.TestCase):
    def test_the_example(self):
        self.assertEqual(one("date", 0), [2000, 1, 1, 5])

    def test_the_first_days(self):
        self.assertEqual(one("date", 1), [2000, 1, 2, 6])
        self.assertEqual(one("date", 2), [2000, 1, 3, 0])
        self.assertEqual(one("date", 30), [2000, 1, 31, 0])
        self.assertEqual(one("date", 31), [2000, 2, 1, 1])

    def test_the_last_day_told(self):
        self.assertEqual(one("date", LAST_DAY), [2399, 12, 31, 4])

    def test_the_ends_of_february(self):
        for year in (2000, 2001, 2004, 2100, 2104, 2200, 2300, 2396):
            before = date(day(year, 3, 1) - 1)
            self.assertEqual(one("date", day(year, 3, 1) - 1), [year, 2, before.day, before.weekday()])
        self.assertEqual(one("date", 36525 + 58), [2100, 2, 28, 6])
        self.assertEqual(one("date", 36525 + 59), [2100, 3, 1, 0])

    def test_every_day_of_all_years_told(self):
        for first in range(0, LAST_DAY + 1, 400):
            numbers = range(first, min(first + 400, LAST_DAY + 1))
            found = ask(*[("date", number) for number in numbers])
            for number, answer in zip(numbers, found):
                told = date(number)
                self.assertEqual(answer, [told.year, told.month, told.day, told.weekday()])

    def test_out_of_range(self):
        self.assertEqual(one("date", -1), [-1])
        self.assertEqual(one("date", LAST_DAY + 1), [-1])


class DayTest(unittest.TestCase):
    def test_the_example(self):
        self.assertEqual(one("day", 2024, 2, 29), [8825])

    def test_the_first_and_the_last_day_told(self):
        self.assertEqual(one("day", 2000, 1, 1), [0])
        self.assertEqual(one("day", 2399, 12, 31), [LAST_DAY])

    def test_each_month_has_its_last_day_and_none_behind_it(self):
        lengths = (31, 28, 31, 30, 31, 30, 31, 31, 30, 31, 30, 31)
        for year in (2001, 2023, 2100, 2200, 2300, 2399):
            for month, length in enumerate(lengths, start=1):
                self.assertEqual(one("day", year, month, length), [day(year, month, length)])
                if length < 31:
                    self.assertEqual(one("day", year, month, length + 1), [-4])

    def test_february_of_leap_years(self):
        for year in (2000, 2004, 2024, 2096, 2104, 2396):
            self.assertEqual(one("day", year, 2, 29), [day(year, 2, 29)])
            self.assertEqual(one("day", year, 2, 30), [-4])
            self.assertEqual(one("day", year, 2, 31), [-4])

    def test_february_of_the_hundreds(self):
        for year in (2100, 2200, 2300):
            self.assertEqual(one("day", year, 2, 29), [-4])
            self.assertEqual(one("day", year, 3, 1), [day(year, 3, 1)])
            self.assertEqual(one("day", year, 12, 31), [day(year, 12, 31)])

    def test_day_and_date_undo_one_another(self):
        for number in range(0, LAST_DAY, 997):
            told = one("date", number)
            self.assertEqual(one("day", told[0], told[1], told[2]), [number])

    def test_out_of_range(self):
        for wrong in ((1999, 1, 1), (2400, 1, 1), (2024, 0, 1), (2024, 13, 1), (2024, 1, 0), (2024, 1, 32)):
            self.assertEqual(one("day", *wrong), [-1])

    def test_a_number_out_of_range_is_told_before_a_missing_day(self):
        self.assertEqual(one("day", 2023, 2, 32), [-1])
        self.assertEqual(one("day", 2400, 2, 30), [-1])
        self.assertEqual(one("day", 1999, 2, 30), [-1])


class EasterTest(unittest.TestCase):
    def test_the_example(self):
        self.assertEqual(one("easter", 2024), [8856])

    def test_well_known_years(self):
        for year, month, number in ((2000, 4, 23), (2008, 3, 23), (2019, 4, 21), (2023, 4, 9), (2025, 4, 20),
                                    (2026, 4, 5), (2038, 4, 25), (2049, 4, 18), (2076, 4, 19), (2285, 3, 22)):
            self.assertEqual(one("easter", year), [day(year, month, number)])

    def test_every_year_told(self):
        found = ask(*[("easter", year) for year in range(2000, 2400)])
        for year, answer in zip(range(2000, 2400), found):
            self.assertEqual(answer, [gauss_sunday(year)])
            self.assertEqual(date(answer[0]).weekday(), 6)

    def test_out_of_range(self):
        self.assertEqual(one("easter", 1999), [-1])
        self.assertEqual(one("easter", 2400), [-1])


class MonthsTest(unittest.TestCase):
    def test_the_example(self):
        self.assertEqual(one("months", 8796, 1), [8825])

    def test_no_months_later(self):
        self.assertEqual(ask(*[("months", number, 0) for number in (0, 59, 8825, LAST_DAY)]), [[0], [59], [8825], [LAST_DAY]])

    def test_the_same_day_of_a_later_month(self):
        for count, year, month in ((1, 2023, 4), (9, 2023, 12), (10, 2024, 1), (12, 2024, 3), (21, 2024, 12), (22, 2025, 1),
                                   (100, 2031, 7), (1199, 2123, 2), (1200, 2123, 3)):
            self.assertEqual(one("months", day(2023, 3, 15), count), [day(year, month, 15)])

    def test_from_december_and_to_december(self):
        self.assertEqual(one("months", day(2023, 12, 31), 1), [day(2024, 1, 31)])
        self.assertEqual(one("months", day(2023, 12, 31), 12), [day(2024, 12, 31)])
        self.assertEqual(one("months", day(2023, 11, 30), 1), [day(2023, 12, 30)])

    def test_from_the_last_days_of_a_month(self):
        for year, last in ((2023, 28), (2024, 29), (2000, 29), (2100, 28), (2200, 28), (2300, 28), (2396, 29)):
            for number in (27, 28, 29, 30, 31):
                self.assertEqual(one("months", day(year, 1, number), 1), [day(year, 2, min(number, last))])
                self.assertEqual(one("months", day(year, 1, number), 2), [day(year, 3, number)])
            self.assertEqual(one("months", day(year, 2, last), 1), [day(year, 3, last)])
        for month in (3, 5, 8, 10):
            self.assertEqual(one("months", day(2024, month, 31), 1), [day(2024, month + 1, 30)])
            self.assertEqual(one("months", day(2024, month + 1, 30), 1), [day(2024, month + 2, 30)])

    def test_years_from_february_29(self):
        for count, year, number in ((12, 2025, 28), (24, 2026, 28), (48, 2028, 29), (912, 2100, 28), (960, 2104, 29)):
            self.assertEqual(one("months", day(2024, 2, 29), count), [day(year, 2, number)])

    def test_up_to_the_last_day_reckoned(self):
        self.assertEqual(one("months", LAST_DAY, 1200), [LAST_RECKONED])
        self.assertEqual(one("months", LAST_DAY - 1, 1200), [LAST_RECKONED - 1])
        self.assertEqual(one("months", LAST_DAY, 1), [LAST_DAY + 31])
        self.assertEqual(one("months", day(2396, 2, 29), 1200), [day(2496, 2, 29)])

    def test_every_count_from_a_month_s_last_day(self):
        told = date(day(2023, 10, 31))
        found = ask(*[("months", day(2023, 10, 31), count) for count in range(400)])
        for count, answer in enumerate(found):
            later = date(answer[0])
            self.assertEqual(12 * (later.year - told.year) + later.month - told.month, count)
            self.assertTrue(later.day == 31 or date(answer[0] + 1).day == 1)

    def test_out_of_range(self):
        for wrong in ((-1, 0), (LAST_DAY + 1, 0), (0, -1), (0, 1201), (LAST_DAY, 1201)):
            self.assertEqual(one("months", *wrong), [-1])


if __name__ == "__main__":
    unittest.main()

import unittest

from tests.helper import LAST_DAY, ask, date, day, gauss_sunday, one


class DateTest(unittest.TestCase):
    def test_the_example(self):
        self.assertEqual(one("date", 0), [2000, 1, 1, 5])

    def test_the_first_days(self):
        self.assertEqual(one("date", 1), [2000, 1, 2, 6])
        self.assertEqual(one("date", 2), [2000, 1, 3, 0])
        self.assertEqual(one("date", 30), [2000, 1, 31, 0])
        self.assertEqual(one("date", 31), [2000, 2, 1, 1])

    def test_the_last_day_told(self):
        self.assertEqual(one("date", LAST_DAY), [2399, 12, 31, 4])

    def test_the_ends_of_february(self):
        for year in (2000, 2001, 2004, 2100, 2104, 2200, 2300, 2396):
            before = date(day(year, 3, 1) - 1)
            self.assertEqual(one("date", day(year, 3, 1) - 1), [year, 2, before.day, before.weekday()])
        self.assertEqual(one("date", 36525 + 58), [2100, 2, 28, 6])
        self.assertEqual(one("date", 36525 + 59), [2100, 3, 1, 0])

    def test_every_day_of_all_years_told(self):
        for first in range(0, LAST_DAY + 1, 400):
            numbers = range(first, min(first + 400, LAST_DAY + 1))
            found = ask(*[("date", number) for number in numbers])
            for number, answer in zip(numbers, found):
                told = date(number)
                self.assertEqual(answer, [told.year, told.month, told.day, told.weekday()])

    def test_out_of_range(self):
        self.assertEqual(one("date", -1), [-1])
        self.assertEqual(one("date", LAST_DAY + 1), [-1])


class DayTest(unittest.TestCase):
    def test_the_example(self):
        self.assertEqual(one("day", 2024, 2, 29), [8825])

    def test_the_first_and_the_last_day_told(self):
        self.assertEqual(one("day", 2000, 1, 1), [0])
        self.assertEqual(one("day", 2399, 12, 31), [LAST_DAY])

    def test_each_month_has_its_last_day_and_none_behind_it(self):
        lengths = (31, 28, 31, 30, 31, 30, 31, 31, 30, 31, 30, 31)
        for year in (2001, 2023, 2100, 2200, 2300, 2399):
            for month, length in enumerate(lengths, start=1):
                self.assertEqual(one("day", year, month, length), [day(year, month, length)])
                if length < 31:
                    self.assertEqual(one("day", year, month, length + 1), [-4])

    def test_february_of_leap_years(self):
        for year in (2000, 2004, 2024, 2096, 2104, 2396):
            self.assertEqual(one("day", year, 2, 29), [day(year, 2, 29)])
            self.assertEqual(one("day", year, 2, 30), [-4])
            self.assertEqual(one("day", year, 2, 31), [-4])

    def test_february_of_the_hundreds(self):
        for year in (2100, 2200, 2300):
            self.assertEqual(one("day", year, 2, 29), [-4])
            self.assertEqual(one("day", year, 3, 1), [day(year, 3, 1)])
            self.assertEqual(one("day", year, 12, 31), [day(year, 12, 31)])

    def test_day_and_date_undo_one_another(self):
        for number in range(0, LAST_DAY, 997):
            told = one("date", number)
            self.assertEqual(one("day", told[0], told[1], told[2]), [number])

    def test_out_of_range(self):
        for wrong in ((1999, 1, 1), (2400, 1, 1), (2024, 0, 1), (2024, 13, 1), (2024, 1, 0), (2024, 1, 32)):
            self.assertEqual(one("day", *wrong), [-1])

    def test_a_number_out_of_range_is_told_before_a_missing_day(self):
        self.assertEqual(one("day", 2023, 2, 32), [-1])
        self.assertEqual(one("day", 2400, 2, 30), [-1])
        self.assertEqual(one("day", 1999, 2, 30), [-1])


class EasterTest(unittest.TestCase):
    def test_the_example(self):
        self.assertEqual(one("easter", 2024), [8856])

    def test_well_known_years(self):
        for year, month, number in ((2000, 4, 23), (2008, 3, 23), (2019, 4, 21), (2023, 4, 9), (2025, 4, 20),
                                    (2026, 4, 5), (2038, 4, 25), (2049, 4, 18), (2076, 4, 19), (2285, 3, 22)):
            self.assertEqual(one("easter", year), [day(year, month, number)])

    def test_every_year_told(self):
        found = ask(*[("easter", year) for year in range(2000, 2400)])
        for year, answer in zip(range(2000, 2400), found):
            self.assertEqual(answer, [gauss_sunday(year)])
            self.assertEqual(date(answer[0]).weekday(), 6)

    def test_out_of_range(self):
        self.assertEqual(one("easter", 1999), [-1])
        self.assertEqual(one("easter", 2400), [-1])


if __name__ == "__main__":
    unittest.main()

import unittest

from tests.helper import ask, codes, one

RIGHT = (
    "rest mon;", "rest tue;", "rest wed;", "rest thu;", "rest fri;", "rest sat;", "rest sun;",
    "feast 1/1;", "feast 12/31;", "feast 2/29;", "feast 4/30;", "feast 10/10;", "moved feast 1/31;",
    "feast easter;", "feast easter+1;", "feast easter-1;", "feast easter+80;", "feast easter-80;",
    "moved feast easter;", "moved feast easter-2 2000-2399;",
    "feast 1 mon 1;", "feast 5 sun 12;", "moved feast 3 wed 7;", "feast last fri 11;", "moved feast last mon 5;",
    "feast tue from 2/29;", "feast mon from 12/31;", "moved feast sat from 6/20;",
    "feast 1/1 2000-2000;", "feast 1/1 2399-2399;", "feast easter+39 2020-2021;", "feast 2 thu 4 2001-2399;",
    "feast last sun 4 2000-2005;", "moved feast sun from 3/7 2010-2011;",
    "shut 2000/1/1;", "shut 2399/12/31;", "shut 2024/2/29;", "open 2000/1/1;", "open 2000/2/29;", "open 2399/12/31;",
)

# By the part of a sentence that isn't made as told.
WRONG = {
    "the semicolon behind a sentence": ("rest mon", "rest mon;rest tue", "feast 1/1;open 2024/1/1"),
    "nothing between or behind sentences": (
        " rest mon;", "rest mon; ", "rest mon; rest tue;", "rest mon;\n", "rest mon;;", ";rest mon;", "rest mon;x",
        "rest mon;rest tue;\x00"),
    "an empty sentence": (";", ";;", " ;"),
    "one blank between words": (
        "rest  mon;", "rest mon ;", "restmon;", "rest\tmon;", "moved  feast 1/1;", "feast  1/1;", "feast 1/1 ;",
        "feast 1/1  2000-2001;", "feast 1  mon 1;", "feast 1 mon  1;", "feast 1 mon 1 ;", "shut  2024/1/1;",
        "shut 2024/1/1 ;", "open 2024/1/ 1;", "feast 1 /1;", "feast easter +1;", "feast 1/1 2000 -2001;", "fe ast 1/1;"),
    "the first word": (
        "Rest mon;", "REST mon;", "res mon;", "rests mon;", "mon;", "x;", "holiday 1/1;", "feasts 1/1;", "closed 2024/1/1;",
        "opened 2024/1/1;", "shutt 2024/1/1;", "1/1;", "easter;"),
    "moved stands before feast alone": (
        "moved;", "moved 1/1;", "moved rest mon;", "moved shut 2024/1/1;", "moved open 2024/1/1;", "feast moved 1/1;",
        "moved moved feast 1/1;", "Moved feast 1/1;", "move feast 1/1;"),
    "how many words": (
        "rest;", "rest mon tue;", "feast;", "moved feast;", "shut;", "open;", "shut 2024/1/1 2024/1/2;",
        "open 2024/1/1 2000-2001;", "rest mon 2000-2001;", "feast 1/1 2000-2001 2003-2004;", "feast 1 mon;",
        "feast last mon;", "feast mon from;", "feast 1 mon 1 2000-2001 2003-2004;", "feast easter easter easter;",
        "feast 1/1 1/2;", "feast mon;", "feast 1 mon 1 1;", "feast 1 mon 1 1 1;"),
    "weekdays": (
        "rest monday;", "rest Mon;", "rest mo;", "rest 0;", "rest 1;", "rest ;", "feast 1 foo 1;", "feast last day 1;",
        "feast 1 1 1;", "feast day from 1/1;", "feast 0 from 1/1;", "feast last from 1/1;", "feast 1 from 1/1;"),
    "months": (
        "feast 0/1;", "feast 13/1;", "feast 1 mon 0;", "feast 1 mon 13;", "feast last mon 0;", "feast last mon 13;",
        "feast mon from 0/1;", "feast mon from 13/1;", "shut 2024/0/1;", "open 2024/13/1;", "feast 1 mon jan;"),
    "days of a month in a leap year": (
        "feast 1/0;", "feast 1/32;", "feast 2/30;", "feast 3/32;", "feast 4/31;", "feast 5/32;", "feast 6/31;",
        "feast 7/32;", "feast 8/32;", "feast 9/31;", "feast 10/32;", "feast 11/31;", "feast 12/32;",
        "feast mon from 2/30;", "feast mon from 1/0;", "feast mon from 4/31;"),
    "dates that there are": (
        "shut 2023/2/29;", "shut 2100/2/29;", "shut 2024/2/30;", "shut 2024/4/31;", "shut 2024/1/0;", "shut 2024/1/32;",
        "open 2023/2/29;", "open 2300/2/29;", "open 2024/11/31;", "open 2024/1/0;", "open 2024/12/32;"),
    "years": (
        "shut 1999/12/31;", "shut 2400/1/1;", "open 1999/12/31;", "open 2400/1/1;", "feast 1/1 1999-2001;",
        "feast 1/1 2399-2400;", "feast 1/1 1999-1999;", "feast 1/1 2400-2400;", "feast 1/1 0-2001;",
        "shut 99999999999999999999/1/1;"),
    "from a year to a year": (
        "feast 1/1 2001-2000;", "feast 1/1 2000;", "feast 1/1 2000-;", "feast 1/1 -2000;", "feast 1/1 2000-2001-2002;",
        "feast 1/1 2000--2001;", "feast 1/1 2000+2001;", "feast 1/1 2000/2001;", "feast 1/1 -;",
        "feast 1 mon 1 2001-2000;", "feast mon from 1/1 2001-2000;", "feast easter 2001-2000;"),
    "dates of two or three numbers": (
        "feast 1;", "feast /;", "feast 1/;", "feast /1;", "feast 1/1/1;", "feast 2024/1/1;", "feast 1-1;", "feast 1//1;",
        "feast mon from 1;", "feast mon from 2024/1/1;", "shut 1/1;", "shut 2024/1;", "shut 2024/1/1/1;", "shut 2024/1/;",
        "shut 2024-1-1;", "open 2024;", "open /1/1;", "open 1/1;", "open 2024//1;"),
    "days from the moon Sunday": (
        "feast easter+0;", "feast easter-0;", "feast easter+81;", "feast easter-81;", "feast easter+;", "feast easter-;",
        "feast easter1;", "feast easter+-1;", "feast easter++1;", "feast easter+1+1;", "feast easter+x;", "feast Easter;",
        "feast easte;", "feast easters;", "feast easter/1;", "feast easter+1d;"),
    "the place of a weekday": (
        "feast 0 mon 1;", "feast 6 mon 1;", "feast first mon 1;", "feast x mon 1;", "feast -1 mon 1;", "feast Last mon 1;",
        "feast + mon 1;"),
    "from": ("feast mon form 1/1;", "feast mon From 1/1;", "feast mon on 1/1;", "feast mon from easter;", "feast from mon 1/1;"),
    "zeros in front": (
        "feast 01/1;", "feast 1/01;", "feast 00/1;", "feast easter+01;", "feast easter-07;", "feast 01 mon 1;",
        "feast 1 mon 01;", "feast last mon 01;", "feast mon from 01/1;", "feast mon from 1/01;", "shut 02024/1/1;",
        "shut 2024/01/1;", "shut 2024/1/01;", "open 2024/1/01;", "feast 1/1 02000-2001;", "feast 1/1 2000-02001;"),
    "numbers that aren't decimal": (
        "feast a/1;", "feast 1/a;", "feast +1/1;", "feast 1/+1;", "feast 1/-1;", "feast 1.0/1;", "shut 2024/1/x;",
        "feast 0x1/1;", "feast 1_0/1;", "feast 1/1 2000-2o01;", "feast 1/\xb2;", "feast \xb9/1;"),
    "signs that no sentence has": ("rest mon\xff;", "rest m\x00n;", "rest mon:", "rest mon;\xa0", "\xff", "feast 1/1,;"),
    "all seven weekdays": (
        "rest mon;rest tue;rest wed;rest thu;rest fri;rest sat;rest sun;",
        "rest sun;rest sat;rest fri;rest thu;feast 1/1;rest wed;rest tue;open 2024/1/1;rest mon;",
        "rest mon;rest mon;rest tue;rest wed;rest thu;rest fri;rest sat;rest sun;"),
    "the twenty-first sentence": ("rest mon;" * 21, "feast 1/1;" * 20 + "open 2024/1/1;", "rest mon;" * 88),
    "a right sentence mends no wrong one": ("rest mon;feast 2/30;", "feast 2/30;rest mon;", "rest mon;x;rest tue;"),
}


class RightTextTest(unittest.TestCase):
    def test_each_form_of_a_sentence(self):
        for text in RIGHT:
            with self.subTest(text=text):
                self.assertEqual(one("land", 0, 0, 0, text), [1])

    def test_the_example(self):
        self.assertEqual(one("land", 0, 0, 0, "rest sun;moved feast 1/1;"), [2])

    def test_the_empty_text(self):
        self.assertEqual(one("land", 0, 0, 0, ""), [0])

    def test_sentences_are_counted_even_if_told_again(self):
        self.assertEqual(one("land", 0, 0, 0, "rest mon;rest mon;rest mon;"), [3])
        self.assertEqual(one("land", 0, 0, 0, "shut 2024/1/1;open 2024/1/1;"), [2])

    def test_twenty_sentences(self):
        self.assertEqual(one("land", 0, 0, 0, "feast 1/1;" * 20), [20])

    def test_six_days_of_rest(self):
        self.assertEqual(one("land", 0, 0, 0, "rest mon;rest tue;rest wed;rest thu;rest fri;rest sat;"), [6])
        self.assertEqual(one("land", 0, 0, 0, "rest mon;" * 7), [7])

    def test_the_last_date_of_each_month(self):
        for month, date in enumerate((31, 29, 31, 30, 31, 30, 31, 31, 30, 31, 30, 31), start=1):
            self.assertEqual(one("land", 0, 0, 0, f"feast {month}/{date};feast mon from {month}/{date};"), [2])


class WrongTextTest(unittest.TestCase):
    def test_each_way_in_which_a_text_is_not_right(self):
        for way, texts in WRONG.items():
            for text in texts:
                with self.subTest(way=way, text=text):
                    self.assertEqual(one("land", 0, 0, 0, text), [-6])

    def test_no_sign_but_those_of_a_sentence(self):
        for code in range(256):
            self.assertEqual(one("land", 0, 0, 0, [code]), [-6])
            if code != ord(" "):
                self.assertEqual(one("land", 0, 0, 0, codes("rest") + [code] + codes("mon;")), [-6])

    def test_eight_hundred_bytes_are_not_too_long(self):
        self.assertEqual(one("land", 0, 0, 0, [0] * 800), [-6])

    def test_a_refusal_changes_nothing(self):
        for wrong in (("land", 1, -60, 7, "rest mon"), ("land", 1, 841, 7, ""), ("land", 1, 1, 31, ""),
                      ("land", 1, 1, 1, [256]), ("land", 4, 1, 1, "")):
            found = ask(("land", 1, 60, 3, "rest sun;"), wrong, ("landtext", 1), ("closed", 1, 1), ("closed", 1, 2))
            self.assertIn(found[1], ([-1], [-6]))
            self.assertEqual(found[2], [780, 3] + codes("rest sun;"))
            self.assertEqual(found[3:], [[1], [0]])

    def test_a_refusal_part_way_leaves_no_sentence_behind(self):
        found = ask(("land", 0, 0, 0, "rest sat;rest sun;x;"), ("closed", 0, 0), ("closed", 0, 1), ("landtext", 0))
        self.assertEqual(found, [[-6], [0], [0], [720, 0]])


class LandRangeTest(unittest.TestCase):
    def test_the_ends_of_each_range(self):
        for a, ahead, post in ((0, -720, 0), (3, 840, 30), (0, 840, 0), (3, -720, 30)):
            self.assertEqual(one("land", a, ahead, post, "rest mon;"), [1])

    def test_out_of_range(self):
        for a, ahead, post in ((-1, 0, 0), (4, 0, 0), (0, -721, 0), (0, 841, 0), (0, 0, -1), (0, 0, 31)):
            self.assertEqual(one("land", a, ahead, post, "rest mon;"), [-1])

    def test_a_text_with_numbers_that_are_no_bytes(self):
        for wrong in (-1, 256, 1000, -9223372036854775808, 9223372036854775807):
            self.assertEqual(one("land", 0, 0, 0, [wrong]), [-1])
            self.assertEqual(one("land", 0, 0, 0, codes("rest mon;") + [wrong]), [-1])

    def test_a_number_out_of_range_is_told_before_a_wrong_text(self):
        self.assertEqual(one("land", 4, 0, 0, "x"), [-1])
        self.assertEqual(one("land", 0, 841, 0, "x"), [-1])
        self.assertEqual(one("land", 0, 0, 31, "x"), [-1])
        self.assertEqual(one("land", 0, 0, 0, codes("x") + [256]), [-1])

    def test_a_text_too_long(self):
        self.assertEqual(one("land", 0, 0, 0, [0] * 801), [-1])


class LandtextTest(unittest.TestCase):
    def test_before_the_first_call(self):
        self.assertEqual(ask(*[("landtext", a) for a in range(4)]), [[720, 0]] * 4)

    def test_what_was_told(self):
        text = "rest sun;moved feast 1/1;"
        self.assertEqual(ask(("land", 0, 0, 0, text), ("landtext", 0))[1], [720, 0] + codes(text))

    def test_the_ends_of_minutes_and_post(self):
        self.assertEqual(ask(("land", 2, -720, 30, ""), ("landtext", 2))[1], [0, 30])
        self.assertEqual(ask(("land", 2, 840, 0, ""), ("landtext", 2))[1], [1560, 0])
        self.assertEqual(ask(("land", 2, -1, 1, ""), ("landtext", 2))[1], [719, 1])

    def test_each_land_has_its_own(self):
        found = ask(*[("land", a, a, 10 + a, "rest mon;" * a) for a in range(4)], *[("landtext", a) for a in range(4)])
        for a in range(4):
            self.assertEqual(found[4 + a], [720 + a, 10 + a] + codes("rest mon;" * a))

    def test_a_later_text_takes_the_place_of_all_that_was_told(self):
        found = ask(("land", 0, 5, 6, "rest sat;feast 1/3;shut 2000/1/4;"), ("closed", 0, 0), ("closed", 0, 2),
                    ("closed", 0, 3), ("land", 0, 0, 0, ""), ("landtext", 0), ("closed", 0, 0), ("closed", 0, 2),
                    ("closed", 0, 3), ("feasts", 0, 2000))
        self.assertEqual(found, [[3], [1], [1], [1], [0], [720, 0], [0], [0], [0], [0]])

    def test_out_of_range(self):
        self.assertEqual(one("landtext", -1), [-1])
        self.assertEqual(one("landtext", 4), [-1])


if __name__ == "__main__":
    unittest.main()

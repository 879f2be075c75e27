import unittest

from tests.helper import ask, ask_limits, codes, one

RIGHT = (
    "start", "receipt(start)", "open(start)", "back(start)", "month(start)", "going(start)", "later(start,start)",
    "earlier(start,start)", "start+1d", "start+1w", "start+1m", "start+1y", "start+1o", "start+400d", "start+400w",
    "start+400m", "start+400y", "start+20o", "start+9o", "start+10o", "start+19o", "start+99d", "start+100d", "start+399d",
    "start+1d+1w+1m+1y+1o", "start+1d+1d+1d", "open(start+1m)", "open(start)+1m", "open(start+1m)+2w",
    "later(start+1d,start+2d)+3d", "earlier(open(start),back(start))", "later(later(start,start),start)",
    "later(start,earlier(start,start))", "going(receipt(start+3m))", "month(month(start)+1m)",
)

# By the part of a limit that isn't made as told.
WRONG = {
    "a text without a limit": ("",),
    "the word start": ("Start", "START", "star", "starts", "tart", "start0", "s", "begin", "d", "1", "st art"),
    "a base alone stands at the front": ("+1d", "1d", "+1dstart", "1d+start", "d+1start", "(start)", ",start", ")start"),
    "one base": ("startstart", "start start", "start,start", "start+start", "startopen(start)", "open(start)start"),
    "the words with brackets": (
        "Open(start)", "opens(start)", "receip(start)", "shut(start)", "last(start)", "months(start)", "go(start)",
        "max(start,start)", "late(start,start)", "early(start,start)", "x(start)"),
    "brackets that begin": ("open", "openstart", "openstart)", "open[start]", "later", "laterstart,start)", "open,start)"),
    "brackets that end": (
        "open(start", "open(start+1d", "open(open(start)", "later(start,start", "later(start", "later(start,", "open(",
        "later("),
    "no bracket beyond": ("start)", "open(start))", "start+1d)", "later(start,start))", "open((start))", "(open(start))"),
    "a limit within the brackets": (
        "open()", "receipt()", "back()", "month()", "going()", "open(+1d)", "open(x)", "open(1)", "later(,)", "later()",
        "later(start,)", "later(,start)", "earlier(,start)", "earlier(start,)"),
    "start has no brackets": ("start()", "start(start)", "start(+1d)"),
    "one limit in the brackets of these": (
        "open(start,start)", "receipt(start,start)", "back(start,start)", "month(start,start)", "going(start,start)",
        "open(start,)", "open(start+1d,1)"),
    "two limits in the brackets of those": (
        "later(start)", "earlier(start)", "later(start,start,start)", "earlier(start,start,start)", "later(start;start)",
        "later(start+1dstart)", "later(startstart)", "later(start,,start)"),
    "additions behind the base": (
        "start1d", "start-1d", "start++1d", "start+1d+", "start+", "start+1d1d", "start+1d-1d", "start*2d", "open+1d(start)",
        "open(+1dstart)", "start+(1d)", "start+1d,"),
    "the number of an addition": (
        "start+d", "start+o", "start+0d", "start+0o", "start+401d", "start+401w", "start+401m", "start+401y", "start+1000d",
        "start+500y", "start+xd", "start+-1d", "start++1d", "start+1.5d", "start+999999999999999999999999d",
        "start+\xb2d", "start+\xb9o", "start+4 0d"),
    "open days of an addition": ("start+21o", "start+22o", "start+30o", "start+100o", "start+400o", "start+401o"),
    "zeros in front": (
        "start+01d", "start+00d", "start+001w", "start+0400d", "start+020o", "start+01o", "start+010m", "start+1d+01d"),
    "the letter of an addition": (
        "start+1", "start+1D", "start+1x", "start+1h", "start+1dd", "start+1day", "start+1md", "start+1+1d", "open(start+1)",
        "start+1(", "start+20O", "start+1,", "start+1)"),
    "no blanks": (
        " start", "start ", "start +1d", "start+ 1d", "start+1 d", "open (start)", "open( start)", "open(start )",
        "later(start, start)", "later(start ,start)", "start\n", "\tstart", " "),
    "no sign of calendars": ("start;", "start/1", "start-1d", "rest mon;", "open 2024/1/1;", "feast easter;"),
    "how deep": (
        "open(" * 12 + "start" + ")" * 12, "back(" * 13 + "start" + ")" * 13, "open(" * 15 + "start" + ")" * 15,
        "later(start," + "open(" * 11 + "start" + ")" * 12, "later(" + "open(" * 11 + "start" + ")" * 11 + ",start)",
        "open(" * 11 + "later(start,start)" + ")" * 11, "open(" * 6 + "back(" * 6 + "start+1d" + ")" * 12 + "+1d"),
    "as long as may be, never ended": ("open(" * 20, "(" * 100, ")" * 100, "+" * 100, "1" * 100, "start" * 20, "later(" * 16),
}


def deep(word, count):
    """A limit one deeper than there are words round it."""
    return f"{word}(" * count + "start" + ")" * count


class RightLimitTest(unittest.TestCase):
    def test_each_form_of_a_limit(self):
        for text in RIGHT:
            with self.subTest(text=text):
                self.assertEqual(ask(("limit", 0, text), ("limittext", 0)), [[0], codes(text)])

    def test_each_place(self):
        for place in range(6):
            self.assertEqual(one("limit", place, "start"), [0])

    def test_each_number_of_an_addition(self):
        for letter, most in (("d", 400), ("w", 400), ("m", 400), ("y", 400), ("o", 20)):
            found = ask(*[("limit", 0, f"start+{number}{letter}") for number in range(1, 401)])
            self.assertEqual(found, [[0]] * most + [[-6]] * (400 - most))

    def test_twelve_deep(self):
        for word in ("open", "back", "month"):
            self.assertEqual(one("limit", 0, deep(word, 11)), [0])
        self.assertEqual(one("limit", 0, deep("going", 11)), [0])

    def test_thirteen_deep(self):
        for word in ("open", "back", "month", "going"):
            self.assertEqual(one("limit", 0, deep(word, 12)), [-6])

    def test_the_deeper_side_counts(self):
        shallow = deep("open", 3)
        for word in ("later", "earlier"):
            self.assertEqual(one("limit", 0, f"{word}({deep('open', 10)},start)"), [0])
            self.assertEqual(one("limit", 0, f"{word}(start,{deep('open', 10)})"), [0])
            self.assertEqual(one("limit", 0, f"{word}({deep('open', 9)},{shallow})"), [0])
            self.assertEqual(one("limit", 0, f"{word}({deep('open', 11)},start)"), [-6])
            self.assertEqual(one("limit", 0, f"{word}(start,{deep('open', 11)})"), [-6])

    def test_later_and_earlier_deepen_by_one(self):
        text = "start"
        for count in range(6):
            text = f"later({text},start)"
            self.assertEqual(one("limit", 0, text), [0])
        self.assertEqual(one("limit", 0, "open(" * 10 + "later(start,start)" + ")" * 10), [0])
        self.assertEqual(one("limit", 0, "open(" * 11 + "later(start,start)" + ")" * 11), [-6])

    def test_limits_side_by_side_do_not_deepen(self):
        text = "later(earlier(start,start),earlier(start,later(start,start)))"
        self.assertEqual(one("limit", 0, "open(" * 5 + text + ")" * 5), [0])

    def test_additions_do_not_deepen(self):
        self.assertEqual(one("limit", 0, "open(" * 11 + "start+1d+2d" + ")+1d" + ")" * 10 + "+1m+1y+1o+1w"), [0])
        self.assertEqual(one("limit", 0, "start" + "+1d" * 31), [0])

    def test_a_hundred_bytes(self):
        text = "start" + "+100d" * 19
        self.assertEqual(len(text), 100)
        self.assertEqual(ask(("limit", 0, text), ("limittext", 0)), [[0], codes(text)])


class WrongLimitTest(unittest.TestCase):
    def test_each_way_in_which_a_text_is_not_right(self):
        for way, texts in WRONG.items():
            for text in texts:
                with self.subTest(way=way, text=text):
                    self.assertLessEqual(len(text), 100)
                    self.assertEqual(one("limit", 0, text), [-6])

    def test_no_sign_beside_a_right_text(self):
        for code in range(256):
            for wrong in ([code], [code] + codes("start"), codes("start") + [code], codes("st") + [code] + codes("art"),
                          codes("open") + [code] + codes("(start)"), codes("start+1") + [code, 100]):
                right = wrong[:7] == codes("start+1") and 48 <= code <= 57
                self.assertEqual(one("limit", 0, wrong), [0] if right else [-6], wrong)

    def test_each_text_cut_off_and_with_a_sign_left_out(self):
        text = "later(going(receipt(start+3m)),earlier(open(start),back(start)))"
        for at in range(len(text)):
            self.assertEqual(one("limit", 0, text[:at]), [-6])
            self.assertEqual(one("limit", 0, text[:at] + text[at + 1:]), [-6])

    def test_a_hundred_and_one_bytes(self):
        self.assertEqual(one("limit", 0, "start" + "+100d" * 18 + "+1d+1d"), [-1])
        self.assertEqual(one("limit", 0, [0] * 101), [-1])
        self.assertEqual(one("limit", 0, [0] * 100), [-6])
        self.assertEqual(one("limit", 0, [40] * 800), [-1])

    def test_numbers_that_are_no_bytes(self):
        for wrong in (-1, 256, 1000, -9223372036854775808, 9223372036854775807):
            self.assertEqual(one("limit", 0, [wrong]), [-1])
            self.assertEqual(one("limit", 0, codes("start") + [wrong]), [-1])
            self.assertEqual(one("limit", 0, [wrong] + codes("start")), [-1])
        self.assertEqual(one("limit", 0, [255]), [-6])
        self.assertEqual(one("limit", 0, [0]), [-6])

    def test_a_number_out_of_range_is_told_before_a_wrong_text(self):
        self.assertEqual(one("limit", 6, "x"), [-1])
        self.assertEqual(one("limit", -1, ""), [-1])
        self.assertEqual(one("limit", 0, codes("x") + [256]), [-1])

    def test_a_refusal_changes_nothing(self):
        for wrong, refusal in ((("limit", 2, "open(start"), -6), (("limit", 2, ""), -6), (("limit", 2, deep("open", 12)), -6),
                               (("limit", 2, [256]), -1), (("limit", 6, "start"), -1), (("limit", -1, "start"), -1),
                               (("limit", 2, "start+1d" + "+100d" * 19), -1)):
            found = ask(("limit", 2, "start+5d"), wrong, ("limittext", 2), ("end", 2, 0, 10))
            self.assertEqual(found, [[0], [refusal], codes("start+5d"), [15]])

    def test_a_refusal_tells_no_limit(self):
        self.assertEqual(ask(("limit", 2, "start+5"), ("limittext", 2), ("end", 2, 0, 10)), [[-6], [-8], [-8]])


class LimittextTest(unittest.TestCase):
    def test_none_before_the_first_call(self):
        self.assertEqual(ask(*[("limittext", place) for place in range(6)]), [[-8]] * 6)

    def test_each_place_has_its_own(self):
        texts = [f"start+{place + 1}d" for place in range(6)]
        self.assertEqual(ask_limits(texts, *[("limittext", place) for place in range(6)]), [codes(text) for text in texts])

    def test_a_later_limit_takes_the_place_of_the_first(self):
        found = ask(("limit", 3, "open(start+20o)"), ("limit", 3, "start"), ("limittext", 3), ("end", 3, 0, 7))
        self.assertEqual(found, [[0], [0], codes("start"), [7]])

    def test_a_limit_told_in_one_place_is_told_in_no_other(self):
        found = ask(("limit", 3, "start"), *[("limittext", place) for place in range(6)])
        self.assertEqual(found[1:], [[-8], [-8], [-8], codes("start"), [-8], [-8]])

    def test_out_of_range(self):
        self.assertEqual(one("limittext", -1), [-1])
        self.assertEqual(one("limittext", 6), [-1])


if __name__ == "__main__":
    unittest.main()

"""Fractions as texts: written, read back, and what is refused."""

import copy
import itertools
import math
import re
import unittest

from grindbench.errors import NoNumber
from grindbench.figures import read_ratio, show_ratio
from grindbench.ratios import is_ratio

FIFTEEN = 999999999999999
WRITTEN = [
    ("0", (0, 1)),
    ("1", (1, 1)),
    ("-1", (-1, 1)),
    ("7", (7, 1)),
    ("10", (10, 1)),
    ("-100", (-100, 1)),
    ("1/2", (1, 2)),
    ("-1/2", (-1, 2)),
    ("3/2", (3, 2)),
    ("-22/7", (-22, 7)),
    ("1/10", (1, 10)),
    ("100/101", (100, 101)),
    ("1234567890/7", (1234567890, 7)),
    ("100000000000000", (10 ** 14, 1)),
    ("999999999999999", (FIFTEEN, 1)),
    ("-999999999999999", (-FIFTEEN, 1)),
    ("999999999999999/999999999999998", (FIFTEEN, FIFTEEN - 1)),
    ("-999999999999998/999999999999999", (1 - FIFTEEN, FIFTEEN)),
    ("1/100000000000000", (1, 10 ** 14)),
    ("-1/999999999999999", (-1, FIFTEEN)),
]
ONE_FORM = re.compile(r"(0|-?[1-9][0-9]{0,14})(?:/([1-9][0-9]{0,14}))?")


def asked_of(text):
    """What the document asks of a text, found in another way: its fraction, or None where it writes none."""
    form = ONE_FORM.fullmatch(text)
    if form is None:
        return None
    top = int(form.group(1))
    if form.group(2) is None:
        return (top, 1)
    bottom = int(form.group(2))
    return (top, bottom) if bottom > 1 and math.gcd(top, bottom) == 1 else None


class FiguresTest(unittest.TestCase):
    def refused(self, thing):
        with self.assertRaises(NoNumber, msg=repr(thing)):
            read_ratio(thing)

    def as_asked(self, text):
        asked = asked_of(text)
        if asked is None:
            self.refused(text)
        else:
            self.assertEqual(read_ratio(text), asked, repr(text))


class WrittenAndReadTest(FiguresTest):
    def test_written(self):
        for text, one in WRITTEN:
            self.assertEqual(show_ratio(one), text)
            self.assertIs(type(show_ratio(one)), str)

    def test_read(self):
        for text, one in WRITTEN:
            answer = read_ratio(text)
            self.assertIs(type(answer), tuple)
            self.assertEqual(answer, one)
            self.assertIs(is_ratio(answer), True)

    def test_there_and_back(self):
        for top in range(-40, 41):
            for bottom in range(1, 25):
                if math.gcd(top, bottom) == 1:
                    self.assertEqual(read_ratio(show_ratio((top, bottom))), (top, bottom))

    def test_what_is_written_may_have_more_figures_than_what_is_read(self):
        self.assertEqual(show_ratio((10 ** 15, 1)), "1" + "0" * 15)
        self.assertEqual(show_ratio((-(10 ** 20), 3)), "-1" + "0" * 20 + "/3")
        self.assertEqual(show_ratio((1, 10 ** 999)), "1/1" + "0" * 999)
        self.assertEqual(show_ratio((-(10 ** 999), 1)), "-1" + "0" * 999)
        self.refused(show_ratio((10 ** 15, 1)))


class RefusedTextsTest(FiguresTest):
    def all_refused(self, texts):
        for text in texts:
            self.assertIsNone(asked_of(text), text)
            self.refused(text)

    def test_sixteen_figures(self):
        self.all_refused([
            "1" * 16, "-" + "1" * 16, "1" + "0" * 15, "1/1" + "0" * 15, "1" + "0" * 15 + "/3", "-1" + "0" * 15 + "/3",
            "3/" + "1" * 16, "1" * 16 + "/" + "1" * 15, "1" * 15 + "/" + "1" * 16, "9" * 4000, "1/" + "9" * 3998,
        ])

    def test_noughts_ahead(self):
        self.all_refused([
            "00", "01", "-01", "007", "01/2", "-01/2", "1/02", "1/002", "-1/02", "01/02", "00/2", "0" * 15,
            "0" * 16 + "1", "0" * 4000, "000000000000001",
        ])

    def test_0_has_one_form(self):
        self.all_refused(["-0", "+0", "0/1", "0/2", "0/0", "-0/1", "-0/2", "-00", "0/10"])

    def test_signs_and_blanks(self):
        self.all_refused([
            "+1", "+1/2", "1/+2", "1+", "1+1", "--1", "-", "--", "- 1", "-+1", "+-1", "1-", "1-2", "1/2-", "1-/2",
            " 1", "1 ", " 1/2", "1/2 ", "1 /2", "1/ 2", "1 / 2", "1 2", " ", "  ", "- 1/2", " -1", "-1 ", "-1/2 ",
        ])

    def test_strokes(self):
        self.all_refused([
            "/", "//", "1/", "/2", "-/2", "-1/", "-/", "1//2", "1/2/3", "1/2/", "/1/2", "1/3/5", "1\\2", "1:2",
        ])

    def test_bottoms(self):
        self.all_refused([
            "1/1", "5/1", "-5/1", "1/0", "-1/0", "5/0", "1/-2", "-1/-2", "1/-1", "0/-1", "1/00", "999999999999999/1",
        ])

    def test_not_in_lowest_terms(self):
        self.all_refused([
            "2/4", "-2/4", "2/2", "6/4", "10/5", "9/6", "-35/49", "999999999999999/999999999999999",
            "999999999999999/3", "3/999999999999999",
        ])

    def test_points_and_letters(self):
        self.all_refused([
            "1.", "1.0", ".5", "1.5", "1,5", "1/2.0", "1e3", "1E3", "a", "x1", "1x", "1/x", "0x1", "0b1", "1_0", "1/1_0",
            "inf", "nan", "None", "True", "one", "(1, 2)", "1/2j", "1l",
        ])

    def test_tabs_and_line_ends(self):
        for sign in ["\t", "\n", "\r", "\r\n", "\v", "\f", "\0"]:
            self.all_refused([
                sign, "1" + sign, sign + "1", "1/2" + sign, sign + "1/2", "1" + sign + "/2", "1/" + sign + "2",
                "0" + sign, "-" + sign + "1", "-1" + sign, "1" + sign + "2", "-1/2" + sign,
            ])

    def test_the_text_without_signs(self):
        self.all_refused([""])

    def test_all_short_texts(self):
        for length in range(6):
            for signs in itertools.product("-/ 0124", repeat=length):
                self.as_asked("".join(signs))

    def test_each_sign_at_each_place(self):
        for text in ["0", "12", "-7", "3/4", "-10/21", "1" * 15, "1" * 15 + "/" + "2" * 15]:
            for place in range(len(text) + 1):
                for sign in [chr(number) for number in range(128)]:
                    self.as_asked(text[:place] + sign + text[place:])
                    self.as_asked(text[:place] + sign + text[place + 1:])


class NoTextsTest(FiguresTest):
    def test_what_is_no_text(self):
        for thing in [
            None, True, False, 0, 1, -3, 10 ** 20, 1.5, 1j, (), (1, 2), (0, 1), ("1",), ("1", "2"), [], ["1"],
            ["1", "/", "2"], {}, {"1": "2"}, set(), b"1", b"1/2", bytearray(b"1"), object(), str, len, range(3),
        ]:
            self.refused(thing)

    def test_what_is_handed_in_stays_as_it_is(self):
        things = [["1", "2"], [], {"1": ["2"]}, bytearray(b"1/2")]
        before = copy.deepcopy(things)
        for thing in things:
            self.refused(thing)
        self.assertEqual(things, before)

    def test_answers_stay_the_same_behind_a_refusal(self):
        for attempt in range(3):
            self.assertEqual(read_ratio("-3/2"), (-3, 2), attempt)
            self.refused("-3/2/1")
            self.refused(None)
            self.assertEqual(show_ratio((-3, 2)), "-3/2", attempt)


if __name__ == "__main__":
    unittest.main()

"""Benches as texts: there and back, rounds, and what is refused."""

import copy
import math
import re
import tracemalloc
import unittest

from grindbench.errors import NoBench, NoText
from grindbench.texts import read_bench, show_bench

from samples import no_lists, no_pieces, some_benches

NUMBER = r"(?:0|-?[1-9][0-9]{0,14}(?:/[1-9][0-9]{0,14})?)"
PIECE = re.compile(rf"(gap|glass) ({NUMBER})|(stop) ({NUMBER}) ({NUMBER})")
ROUND = re.compile(r"(0|[1-9][0-9]?) times \( ")


class NoneSuch(Exception):
    """The text writes no bench."""


def asked_number(text):
    top, stroke, bottom = text.partition("/")
    if stroke and (int(bottom) == 1 or math.gcd(int(top), int(bottom)) != 1):
        raise NoneSuch
    return (int(top), int(bottom) if stroke else 1)


def asked_piece(form):
    if form.group(3) is None:
        return (form.group(1), asked_number(form.group(2)))
    low = asked_number(form.group(4))
    high = asked_number(form.group(5))
    if low[0] * high[1] > high[0] * low[1]:
        raise NoneSuch
    return ("stop", low, high)


def asked_parts(text, place, deep):
    """The pieces from a place on, cut behind the sixty-first, and the place behind them."""
    pieces = []
    while True:
        form = PIECE.match(text, place)
        opening = ROUND.match(text, place)
        if form is not None:
            pieces.append(asked_piece(form))
            place = form.end()
        elif opening is not None and int(opening.group(1)) <= 60 and deep < 4:
            within, place = asked_parts(text, opening.end(), deep + 1)
            pieces += within * int(opening.group(1))
            if not text.startswith(" )", place):
                raise NoneSuch
            place += 2
        else:
            raise NoneSuch
        pieces = pieces[:61]
        if not text.startswith("; ", place):
            return pieces, place
        place += 2


def asked_of(text):
    """What the document asks of a text, found in another way: its bench, or None where it writes none."""
    if text == "":
        return []
    try:
        pieces, place = asked_parts(text, 0, 0)
    except NoneSuch:
        return None
    return pieces if place == len(text) and len(pieces) <= 60 else None


class TextsTest(unittest.TestCase):
    def refused(self, thing):
        with self.assertRaises(NoText, msg=repr(thing)):
            read_bench(thing)

    def all_refused(self, texts):
        for text in texts:
            self.assertIsNone(asked_of(text), text)
            self.refused(text)

    def as_asked(self, text):
        asked = asked_of(text)
        if asked is None:
            self.refused(text)
        else:
            self.assertEqual(read_bench(text), asked, repr(text))

    def reads(self, text, bench):
        self.assertEqual(asked_of(text), bench, text)
        answer = read_bench(text)
        self.assertIs(type(answer), list)
        self.assertEqual(answer, bench, text)


class ThereAndBackTest(TextsTest):
    def test_written_out(self):
        for text, bench in [
            ("", []),
            ("gap 0", [("gap", (0, 1))]),
            ("gap 3/2; glass -1/4; stop -1 1", [("gap", (3, 2)), ("glass", (-1, 4)), ("stop", (-1, 1), (1, 1))]),
            ("stop 0 0", [("stop", (0, 1), (0, 1))]),
            ("stop -1/2 -1/3; gap -5", [("stop", (-1, 2), (-1, 3)), ("gap", (-5, 1))]),
            ("glass 999999999999999/999999999999998", [("glass", (10 ** 15 - 1, 10 ** 15 - 2))]),
        ]:
            self.reads(text, bench)
            self.assertEqual(show_bench(bench), text)
            self.assertIs(type(show_bench(bench)), str)

    def test_none_to_sixty_pieces(self):
        for length in range(61):
            bench = [("gap", (length, 1)), ("glass", (-1, length + 2)), ("stop", (-length, 1), (1, 3))] * 20
            bench = bench[:length]
            self.assertEqual(read_bench(show_bench(bench)), bench)

    def test_many_benches(self):
        for bench in some_benches(2, 300, 60):
            text = show_bench(bench)
            self.reads(text, bench)
            self.assertEqual(show_bench(read_bench(text)), text)

    def test_a_long_text_is_shown_and_read(self):
        one = (-(10 ** 15) + 1, 10 ** 15 - 2)
        bench = [("stop", one, one)] * 60
        text = show_bench(bench)
        self.assertEqual(text, "; ".join(["stop -999999999999999/999999999999998 -999999999999999/999999999999998"] * 60))
        self.assertEqual(read_bench(text), bench)

    def test_more_figures_than_are_read_are_shown(self):
        bench = [("gap", (10 ** 15, 1)), ("glass", (1, 10 ** 999))]
        self.assertEqual(show_bench(bench), "gap 1" + "0" * 15 + "; glass 1/1" + "0" * 999)
        self.refused(show_bench(bench))

    def test_a_new_list_each_time(self):
        for text in ["", "gap 1", "2 times ( gap 1 )", "1 times ( gap 1; glass 2 )"]:
            before = list(read_bench(text))
            answer = read_bench(text)
            self.assertIsNot(answer, read_bench(text))
            answer.append(None)
            answer[0] = None
            self.assertEqual(read_bench(text), before)

    def test_what_is_shown_stays_as_it_is(self):
        bench = [("gap", (1, 2)), ("stop", (0, 1), (1, 1))]
        before = copy.deepcopy(bench)
        self.assertEqual(show_bench(bench), "gap 1/2; stop 0 1")
        self.assertEqual(bench, before)

    def test_what_is_no_bench_is_not_shown(self):
        for thing in no_lists() + [[("gap", (1, 1))] * 61, [None] * 61]:
            with self.assertRaises(NoBench) as taken:
                show_bench(thing)
            self.assertIsNone(taken.exception.at)
        for thing in no_pieces():
            with self.assertRaises(NoBench) as taken:
                show_bench([("gap", (1, 1)), thing])
            self.assertEqual(taken.exception.at, 1)


class RoundsTest(TextsTest):
    def test_gone_some_times(self):
        gap = ("gap", (1, 1))
        glass = ("glass", (1, 2))
        for times in range(61):
            self.reads(f"{times} times ( gap 1 )", [gap] * times)
        self.reads("2 times ( gap 1; glass 1/2 )", [gap, glass, gap, glass])
        self.reads("30 times ( gap 1; glass 1/2 )", [gap, glass] * 30)
        self.reads("0 times ( gap 1; glass 1/2 )", [])

    def test_one_behind_the_other_and_amid(self):
        gap = ("gap", (1, 1))
        glass = ("glass", (2, 1))
        stop = ("stop", (-1, 1), (1, 1))
        self.reads("2 times ( gap 1 ); 3 times ( glass 2 )", [gap] * 2 + [glass] * 3)
        self.reads("stop -1 1; 2 times ( gap 1 ); glass 2", [stop, gap, gap, glass])
        self.reads("0 times ( gap 1 ); 0 times ( glass 2 )", [])
        self.reads("1 times ( gap 1 ); 0 times ( stop -1 1 ); 1 times ( glass 2 )", [gap, glass])

    def test_within_one_another(self):
        gap = ("gap", (1, 1))
        glass = ("glass", (2, 1))
        stop = ("stop", (-1, 1), (1, 1))
        self.reads("2 times ( gap 1; 2 times ( glass 2 ); stop -1 1 )", [gap, glass, glass, stop] * 2)
        self.reads("2 times ( 3 times ( gap 1 ); 2 times ( glass 2 ) )", ([gap] * 3 + [glass] * 2) * 2)
        self.reads("2 times ( 2 times ( 2 times ( gap 1 ); glass 2 ); stop -1 1 )", (
            ([gap, gap, glass] * 2 + [stop]) * 2
        ))
        self.reads("1 times ( 2 times ( 1 times ( 3 times ( gap 1 ) ) ) )", [gap] * 6)
        self.reads("2 times ( 2 times ( 2 times ( 2 times ( gap 1 ); glass 2 ); stop -1 1 ); gap 1 )", (
            (([gap, gap, glass] * 2 + [stop]) * 2 + [gap]) * 2
        ))

    def test_five_deep(self):
        text = "gap 1"
        for deep in range(1, 8):
            text = f"1 times ( {text} )"
            if deep <= 4:
                self.reads(text, [("gap", (1, 1))])
            else:
                self.all_refused([text])
        self.all_refused([
            "0 times ( 0 times ( 0 times ( 0 times ( 0 times ( gap 1 ) ) ) ) )",
            "gap 1; 1 times ( gap 1; 1 times ( 1 times ( 1 times ( gap 2; 1 times ( gap 1 ) ) ) ) )",
            "1 times ( " * 300 + "gap 1" + " )" * 300,
            "1 times ( " * 400,
        ])

    def test_deep_ones_one_behind_the_other(self):
        deep = "1 times ( 1 times ( 1 times ( 1 times ( gap 1 ) ) ) )"
        self.reads("; ".join([deep] * 9), [("gap", (1, 1))] * 9)

    def test_sixty_as_a_whole_and_sixty_one(self):
        gap = ("gap", (1, 1))
        for text in [
            "; ".join(["gap 1"] * 60), "60 times ( gap 1 )", "30 times ( gap 1; gap 1 )", "59 times ( gap 1 ); gap 1",
            "gap 1; 59 times ( gap 1 )", "2 times ( 30 times ( gap 1 ) )", "3 times ( 4 times ( 5 times ( gap 1 ) ) )",
            "20 times ( gap 1 ); 20 times ( gap 1 ); 20 times ( gap 1 )",
        ]:
            self.reads(text, [gap] * 60)
            self.all_refused([text + "; gap 1", "gap 1; " + text, text + "; 1 times ( gap 1 )"])
            if text.count("(") < 3:
                self.all_refused([f"2 times ( {text} )", f"1 times ( gap 1; {text} )"])
        self.all_refused(["; ".join(["gap 1"] * 61), "31 times ( gap 1; gap 1 )", "; ".join(["gap 1"] * 500)])

    def test_what_is_gone_0_times_may_have_many_pieces(self):
        self.reads("0 times ( 60 times ( gap 1; gap 2 ) )", [])
        self.reads("0 times ( " + "; ".join(["gap 1"] * 61) + " )", [])
        self.reads("gap 1; 0 times ( 60 times ( 60 times ( 60 times ( gap 1 ) ) ) )", [("gap", (1, 1))])
        self.reads("60 times ( 60 times ( 60 times ( 0 times ( gap 1 ) ) ) )", [])

    def test_what_is_gone_0_times_is_looked_at(self):
        self.all_refused([
            "0 times ( gap )", "0 times ( gap 2/4 )", "0 times ( stop 1 0 )", "0 times ( lens 1 )", "0 times ( )",
            "0 times ( gap 1", "0 times ( gap 1; )", "0 times ( 61 times ( gap 1 ) )", "0 times ( gap 1;glass 1 )",
            "0 times ( 0 times ( gap x ) )",
        ])

    def test_a_great_many_are_refused_without_being_told_out(self):
        row = "; ".join(["gap 1"] * 100)
        texts = [
            f"60 times ( 60 times ( 60 times ( 60 times ( {row} ) ) ) )",
            "60 times ( 60 times ( 60 times ( 60 times ( gap 1 ) ) ) )",
            "; ".join(["60 times ( 60 times ( 60 times ( 60 times ( gap 1 ) ) ) )"] * 60),
        ]
        tracemalloc.start()
        for text in texts:
            self.refused(text)
        self.assertEqual(read_bench(f"0 times ( 60 times ( 60 times ( 60 times ( {row} ) ) ) )"), [])
        most = tracemalloc.get_traced_memory()[1]
        tracemalloc.stop()
        self.assertLess(most, 4000000)


class RefusedTextsTest(TextsTest):
    def test_blanks_too_many_or_too_few(self):
        self.all_refused([
            " ", "  ", " gap 1", "gap 1 ", "gap  1", "gap 1;  glass 1", "gap 1 ; glass 1", "gap 1;glass 1", "gap1",
            "gap 1 ;glass 1", "stop 0  1", " stop 0 1", "stop 0 1 ", "stop  0 1", "stop 01", "2  times ( gap 1 )",
            "2 times  ( gap 1 )", "2 times (  gap 1 )", "2 times ( gap 1  )", "2 times ( gap 1 ) ", " 2 times ( gap 1 )",
            "2 times( gap 1 )", "2times ( gap 1 )", "2 times (gap 1 )", "2 times ( gap 1)", "2 times (gap 1)",
            "2 times ( gap 1 );gap 1", "2 times ( gap 1 ) ; gap 1", "2 times ( gap 1 );  gap 1", "gap 1;  ", "gap - 1",
            "gap 1 /2", "gap 1/ 2",
        ])

    def test_a_part_less_or_more(self):
        self.all_refused([
            "gap", "glass", "stop", "gap ", "gap 1 2", "glass 1 2", "stop 1", "stop 1 2 3", "1", "1 2", "1/2",
            "gap gap 1", "gap glass", "gap; glass 1", "gap 1; glass", "stop 0; gap 1", "gap 1 glass 1", "gap 1 gap",
            "2", "2 times", "2 times (", "2 times ( gap", "2 times ( gap 1", "times ( gap 1 )", "2 ( gap 1 )",
            "2 times gap 1", "2 gap 1", "2 times gap 1 )", "2 times 2 ( gap 1 )", "2 times times ( gap 1 )",
            "2 2 times ( gap 1 )",
        ])

    def test_great_letters_and_other_words(self):
        self.all_refused([
            "Gap 1", "GAP 1", "gAp 1", "Glass 1", "GLASS 1", "Stop 0 1", "STOP 0 1", "2 Times ( gap 1 )",
            "2 TIMES ( gap 1 )", "2 times ( Gap 1 )", "lens 1", "gaps 1", "ga 1", "glas 1", "stops 0 1", "time 1",
            "2 time ( gap 1 )", "two times ( gap 1 )", "gap one", "None", "[]", "()", "( gap 1 )", "( )",
            "2 times [ gap 1 ]", "2 times { gap 1 }", "x", "ok",
        ])

    def test_semicolons(self):
        self.all_refused([
            ";", "; ", ";;", "gap 1;", "gap 1; ", ";gap 1", "; gap 1", "gap 1;; glass 1", "gap 1; ; glass 1",
            "gap 1;;glass 1", "gap 1, glass 1", "gap; 1", "stop 0; 1", "2 times ( gap 1; )", "2 times ( ; gap 1 )",
            "2 times ( gap 1 ; )", "2 times ( gap 1;; gap 2 )", "2; times ( gap 1 )", "2 times; ( gap 1 )",
            "2 times (; gap 1 )", "2 times ( gap 1 );", "2 times ( gap 1 ); ", "2 times ( gap 1 );; gap 1",
            "2 times ( gap 1 ) gap 1", "gap 1 2 times ( gap 1 )", "2 times ( ; )", "2 times ( gap 1;)",
        ])

    def test_line_ends_and_tabs(self):
        for sign in ["\t", "\n", "\r", "\r\n", "\v", "\f", "\0"]:
            self.all_refused([
                sign, "gap 1" + sign, sign + "gap 1", "gap" + sign + "1", "gap 1;" + sign + "glass 1",
                "gap 1" + sign + "; glass 1", "gap 1; " + sign + "glass 1", "stop 0" + sign + "1", "gap 1;" + sign,
                "2" + sign + "times ( gap 1 )", "2 times" + sign + "( gap 1 )", "2 times (" + sign + "gap 1 )",
                "2 times ( gap 1" + sign + ")", "2 times ( gap 1 )" + sign, "2 times ( gap 1 ) " + sign,
            ])

    def test_numbers_not_written_as_asked(self):
        for number in [
            "", "-", "/", "01", "-0", "+1", "1/1", "2/4", "1/0", "0/1", "0/2", "1/-2", "--1", "1.0", "1e1", "x", "1/2/3",
            "00", "1/02", "1" * 16, "1/" + "1" * 16, "-" + "1" * 16, "1_0", "(1, 2)", "1,", "(", ")", "1(", "1)",
        ]:
            self.all_refused([
                f"gap {number}", f"glass {number}", f"stop {number} 9", f"stop -9 {number}", f"2 times ( gap {number} )",
                f"gap 1; glass {number}; gap 1",
            ])
        self.reads("gap " + "1" * 15, [("gap", (int("1" * 15), 1))])

    def test_stops_told_the_other_way_about(self):
        self.all_refused([
            "stop 1 0", "stop 1 -1", "stop -1 -2", "stop 1/2 1/3", "stop 0 -1/999999999999999", "stop -1/3 -1/2",
            "gap 1; stop 1 0", "2 times ( stop 1 0 )", "stop 999999999999999 999999999999998",
        ])

    def test_counts(self):
        for count in [
            "61", "62", "70", "99", "100", "060", "600", "999", "00", "01", "02", "09", "000", "001", "-1", "-0", "+1",
            "+0", "1/2", "2/1", "1.0", "x", "", "1x", "x1", "1_0", "-60", "1e1", "6" * 40, "(",
        ]:
            self.all_refused([f"{count} times ( gap 1 )", f"gap 1; {count} times ( gap 1 )"])
            self.all_refused([f"2 times ( {count} times ( gap 1 ) )"])

    def test_a_round_without_pieces(self):
        self.all_refused([
            "2 times ( )", "2 times ()", "2 times (  )", "0 times ( )", "1 times ( 1 times ( ) )",
            "gap 1; 1 times ( ); gap 1",
        ])

    def test_brackets_missing_or_too_many(self):
        self.all_refused([
            "(", ")", "gap 1 )", "( gap 1", "2 times ( gap 1 ) )", "2 times ( ( gap 1 )", "2 times ( ( gap 1 ) )",
            "2 times ( 2 times ( gap 1 )", "2 times ( 2 times ( gap 1 ) ) )", "2 times ) gap 1 (", "2 times ( gap 1 (",
            "2 times ( gap 1 ); )", "2 times ( gap 1 ) ( gap 1 )", ") 2 times ( gap 1 )", "2 times ( gap 1 ))",
            "2 times (( gap 1 )",
        ])

    def test_each_sign_at_each_place(self):
        signs = [chr(number) for number in range(128)]
        for text in ["gap 1", "stop -1 1/2", "gap 3; glass -1/4", "12 times ( gap 1; 0 times ( stop 0 1 ) ); gap 2"]:
            for place in range(len(text) + 1):
                self.as_asked(text[:place] + text[place + 1:])
                for sign in signs:
                    self.as_asked(text[:place] + sign + text[place:])
                    self.as_asked(text[:place] + sign + text[place + 1:])

    def test_each_word_left_out_doubled_or_set_elsewhere(self):
        text = "gap 1; 2 times ( stop 0 1; 1 times ( glass 2 ) ); gap 3"
        words = text.split(" ")
        for place in range(len(words)):
            self.as_asked(" ".join(words[:place] + words[place + 1:]))
            self.as_asked(" ".join(words[:place + 1] + words[place:]))
            for other in range(len(words)):
                moved = words[:place] + words[place + 1:]
                moved.insert(other, words[place])
                self.as_asked(" ".join(moved))


class NoTextsTest(TextsTest):
    def test_what_is_no_text(self):
        for thing in [
            None, True, False, 0, 1, 1.5, 1j, (), ("gap 1",), ("gap", (1, 1)), [], ["gap 1"], [("gap", (1, 1))], {},
            {"gap": "1"}, set(), b"", b"gap 1", bytearray(b"gap 1"), object(), str, len, range(3), ...,
        ]:
            self.refused(thing)

    def test_what_is_handed_in_stays_as_it_is(self):
        things = [["gap 1"], [("gap", (1, 1))], {"gap": ["1"]}, bytearray(b"gap 1")]
        before = copy.deepcopy(things)
        for thing in things:
            self.refused(thing)
        self.assertEqual(things, before)

    def test_answers_stay_the_same_behind_a_refusal(self):
        for turn in range(3):
            self.reads("2 times ( gap 1 )", [("gap", (1, 1))] * 2)
            self.refused("2 times ( gap 1")
            self.refused(None)


if __name__ == "__main__":
    unittest.main()

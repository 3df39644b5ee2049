"""The desk: each row with its answers, what is refused, and what stays."""

import unittest

from grindbench.apart import taken_apart
from grindbench.desk import Desk
from grindbench.errors import BenchError, NoBench, NoBox, NoRow, NoText, Unknown
from grindbench.fields import field_of
from grindbench.figures import read_ratio, show_ratio
from grindbench.images import growth_of, image_of
from grindbench.lamps import slants_of
from grindbench.rings import rounds_of
from grindbench.screens import sharp_places
from grindbench.tables import table_of
from grindbench.texts import read_bench, show_bench
from grindbench.turning import turned_bench

from samples import no_lists, no_names, no_ratios, some_benches, walked

NAMES = ["a", "b", "ab", "abc", "abcdefgh", "bench", "table", "ok", "none", "zzzzzzzz"]
NO_NUMBERS = [
    "01", "-0", "+1", "1/1", "2/4", "1/0", "0/1", "1/-2", "-1/-2", "--1", "1.0", ".5", "1e1", "x", "R", "1/2/3", "/2",
    "1/", "-",
    "1,", "1;", "1000000000000000", "1/1000000000000000", "-1000000000000000", "1_0", "1\n", "\t1", "\u0661", "0x1",
    "none",
]
# Each row that asks something of a bench, with the words behind its name.
ASKED = [
    "show", "walk 1 0", "table", "apart", "image 1", "field 0 1 0 1", "sharp 0 1 0 1 1", "rounds",
]


def row_of(asked, name):
    """A row of ASKED, asked of this name."""
    word, blank, rest = asked.partition(" ")
    return word + " " + name + blank + rest


def shown(parts):
    return " ".join(show_ratio(part) for part in parts)


def desk_with(**benches):
    desk = Desk()
    for name, text in benches.items():
        assert desk.say(f"bench {name} {text}") == "ok"
    return desk


class DeskTest(unittest.TestCase):
    def says(self, desk, row, answer):
        said = desk.say(row)
        self.assertIs(type(said), str)
        self.assertEqual(said, answer, row)

    def refused(self, desk, row, kind):
        """The refusal of just this kind; nothing that stands is changed by it."""
        stood = self.standing(desk)
        with self.assertRaises(BenchError, msg=repr(row)) as taken:
            desk.say(row)
        self.assertIs(type(taken.exception), kind, row)
        self.assertEqual(self.standing(desk), stood, row)
        return taken.exception

    def standing(self, desk):
        """The texts of all benches that stand by some name of these."""
        texts = {}
        for name in NAMES + ["c", "d", "new", "other"]:
            try:
                texts[name] = desk.say(f"show {name}")
            except Unknown:
                pass
        return texts


class BenchRowTest(DeskTest):
    def test_laid_and_shown(self):
        desk = Desk()
        self.says(desk, "bench a gap 3/2; glass -1/4; stop -1 1", "ok")
        self.says(desk, "show a", "gap 3/2; glass -1/4; stop -1 1")
        self.says(desk, "bench b 2 times ( gap 1; 2 times ( glass 1/2 ) )", "ok")
        self.says(desk, "show b", "gap 1; glass 1/2; glass 1/2; gap 1; glass 1/2; glass 1/2")

    def test_a_text_without_signs(self):
        desk = Desk()
        self.says(desk, "bench a ", "ok")
        self.says(desk, "show a", "")
        self.says(desk, "bench b 0 times ( gap 1 )", "ok")
        self.says(desk, "show b", "")
        self.refused(desk, "bench c", NoRow)

    def test_laid_anew(self):
        desk = desk_with(a="gap 1")
        self.says(desk, "bench a glass 2", "ok")
        self.says(desk, "show a", "glass 2")
        self.says(desk, "bench a ", "ok")
        self.says(desk, "show a", "")

    def test_names_that_are_beginnings_of_one_another(self):
        desk = Desk()
        for number, name in enumerate(NAMES):
            self.says(desk, f"bench {name} gap {number}", "ok")
        for number, name in enumerate(NAMES):
            self.says(desk, f"show {name}", f"gap {number}")
        desk = desk_with(ab="gap 1")
        for name in ["a", "abc", "b", "abcdefgh"]:
            self.refused(desk, f"show {name}", Unknown)

    def test_what_writes_no_bench(self):
        desk = desk_with(a="gap 1")
        for text in [
            " ", " gap 1", "gap 1 ", "gap  1", "gap", "gap 1;", "gap 1;glass 1", "gap 1 ; glass 1", "Gap 1",
            "gap 2/4", "stop 1 0",
            "61 times ( gap 1 )", "2 times ( )", "x", "gap x", "60 times ( gap 1; gap 1 )", "gap 1\n", "0",
        ]:
            for name in ["a", "b"]:
                self.refused(desk, f"bench {name} {text}", NoText)
        self.says(desk, "show a", "gap 1")
        self.refused(desk, "show b", Unknown)

    def test_names_that_are_none(self):
        desk = desk_with(a="gap 1")
        for name in no_names():
            if isinstance(name, str) and " " not in name:
                for text in ["gap 1", "", "nonsense"]:
                    self.refused(desk, f"bench {name} {text}", NoRow)
        for row in [
            "bench", "bench ", "bench  ", "bench  gap 1", "bench  a gap 1", " bench a gap 1", "bench gap; gap 1",
        ]:
            self.refused(desk, row, NoRow)

    def test_sixty_pieces(self):
        desk = Desk()
        self.says(desk, "bench a 60 times ( gap 1 )", "ok")
        self.says(desk, "show a", "; ".join(["gap 1"] * 60))
        self.says(desk, "walk a 0 1", "by 60 1")


class MakingTest(DeskTest):
    def test_join(self):
        desk = desk_with(a="gap 1; stop 0 1", b="glass 2")
        self.says(desk, "join c a b", "ok")
        self.says(desk, "show c", "gap 1; stop 0 1; glass 2")
        self.says(desk, "join d b a", "ok")
        self.says(desk, "show d", "glass 2; gap 1; stop 0 1")
        self.says(desk, "show a", "gap 1; stop 0 1")
        self.says(desk, "show b", "glass 2")

    def test_join_to_a_name_that_stands_and_to_its_own(self):
        desk = desk_with(a="gap 1", b="glass 2", c="stop 0 0")
        self.says(desk, "join c a b", "ok")
        self.says(desk, "show c", "gap 1; glass 2")
        self.says(desk, "join a a b", "ok")
        self.says(desk, "show a", "gap 1; glass 2")
        self.says(desk, "join b a b", "ok")
        self.says(desk, "show b", "gap 1; glass 2; glass 2")
        self.says(desk, "join a a a", "ok")
        self.says(desk, "show a", "gap 1; glass 2; gap 1; glass 2")
        self.says(desk, "show c", "gap 1; glass 2")

    def test_join_with_no_pieces(self):
        desk = desk_with(a="gap 1", b="")
        self.says(desk, "join c a b", "ok")
        self.says(desk, "show c", "gap 1")
        self.says(desk, "join c b b", "ok")
        self.says(desk, "show c", "")

    def test_join_of_sixty_and_more(self):
        desk = desk_with(a="59 times ( gap 1 )", b="gap 1", c="2 times ( gap 1 )")
        self.says(desk, "join d a b", "ok")
        self.says(desk, "show d", "; ".join(["gap 1"] * 60))
        for row in ["join new a c", "join d c a", "join a a a", "join b d b", "join new d d"]:
            self.assertIsNone(self.refused(desk, row, NoBench).at)
        self.refused(desk, "show new", Unknown)

    def test_turn(self):
        desk = desk_with(a="gap 1; glass 2; stop 0 1")
        self.says(desk, "turn b a", "ok")
        self.says(desk, "show b", "stop 0 1; glass 2; gap 1")
        self.says(desk, "show a", "gap 1; glass 2; stop 0 1")
        self.says(desk, "turn a a", "ok")
        self.says(desk, "show a", "stop 0 1; glass 2; gap 1")
        self.says(desk, "bench c gap 7", "ok")
        self.says(desk, "turn a c", "ok")
        self.says(desk, "show a", "gap 7")

    def test_a_bench_laid_anew_changes_none_made_of_it(self):
        desk = desk_with(a="gap 1; glass 2", b="")
        for row in ["join c a b", "join d b a", "turn other a"]:
            self.says(desk, row, "ok")
        self.says(desk, "bench a glass 9", "ok")
        self.says(desk, "bench b glass 8", "ok")
        self.says(desk, "show c", "gap 1; glass 2")
        self.says(desk, "show d", "gap 1; glass 2")
        self.says(desk, "show other", "glass 2; gap 1")
        self.says(desk, "join c c c", "ok")
        self.says(desk, "show d", "gap 1; glass 2")
        self.says(desk, "bench c ", "ok")
        self.says(desk, "show a", "glass 9")


class AskedTest(DeskTest):
    def test_walk(self):
        desk = desk_with(a="gap 3/2; glass -1/4; stop -1 1", b="")
        self.says(desk, "walk a 0 1/3", "by 1/2 11/24")
        self.says(desk, "walk a 5 0", "stopped 2")
        self.says(desk, "walk b 1/2 -3", "by 1/2 -3")
        self.says(desk_with(a="stop 0 1"), "walk a 2 0", "stopped 0")
        self.says(desk_with(a="59 times ( gap 1 ); stop 0 1"), "walk a 2 0", "stopped 59")

    def test_table(self):
        desk = desk_with(a="gap 1; glass 1/2; gap 1; glass 1/2; stop 5 6", b="")
        self.says(desk, "table a", "1/2 3/2 -3/4 -1/4")
        self.says(desk, "table b", "1 0 0 1")

    def test_apart(self):
        desk = desk_with(a="gap 1; gap 2", b="", c="glass 1; stop 0 1; glass -1/2", d="stop 0 1")
        self.says(desk, "apart a", "gap 3")
        self.says(desk, "apart b", "")
        self.says(desk, "apart c", "glass 1/2")
        self.says(desk, "apart d", "")

    def test_image(self):
        desk = desk_with(a="glass 1/2", b="")
        self.says(desk, "image a 4", "4 -1")
        self.says(desk, "image a 3", "6 -2")
        self.says(desk, "image a 1", "-2 2")
        self.says(desk, "image a 2", "none")
        self.says(desk, "image b -5/3", "5/3 1")

    def test_field(self):
        desk = desk_with(a="gap 1; stop -9 2", b="stop 0 0; gap 1; stop 2 3", c="stop 1 1", d="")
        self.says(desk, "field a -2 2 -1 1", "-2 -1, 2 -1, 2 0, 1 1, -2 1")
        self.says(desk, "field b -2 2 -1 1", "none")
        self.says(desk, "field c -2 2 -1/2 1", "1 -1/2, 1 1")
        self.says(desk, "field c 1 2 3 3", "1 3")
        self.says(desk, "field d 0 1 2 3", "0 2, 1 2, 1 3, 0 3")

    def test_sharp(self):
        desk = desk_with(a="glass 1/2", b="stop 90 91", c="stop -1 1", d="glass 1")
        self.says(desk, "sharp a 3 4 -1 1 1", "7/2 9/2")
        self.says(desk, "sharp a 3 4 -1 1 0", "4 4")
        self.says(desk, "sharp b 0 1 -1 1 1", "dark")
        self.says(desk, "sharp c 0 2 -1 1 1", "-3 -1")
        self.says(desk, "sharp d 0 1 -1 1 1", "none")
        self.says(desk, "sharp d 0 1 -1 1 2", "all")
        self.says(desk, "sharp a 0 1 1 1 0", "all")

    def test_rounds(self):
        desk = desk_with(a="", b="3 times ( gap 1; glass 1 )", c="2 times ( gap 1; glass 1 )", d="gap 1; glass 2")
        for name, answer in [("a", "1"), ("b", "2"), ("c", "3"), ("d", "4")]:
            self.says(desk, f"rounds {name}", answer)
        self.says(desk_with(a="gap 1; glass 1"), "rounds a", "6")
        self.says(desk_with(a="gap 1"), "rounds a", "never")

    def test_against_the_stages(self):
        desk = Desk()
        kinds = {}
        rays = [("1", "0"), ("-1/2", "3"), ("0", "-5/3")]
        for bench in some_benches(131, 150, 8):
            self.says(desk, "bench a " + show_bench(bench), "ok")
            self.says(desk, "show a", show_bench(bench))
            self.says(desk, "turn b a", "ok")
            self.says(desk, "show b", show_bench(turned_bench(bench)))
            self.says(desk, "join c a b", "ok")
            self.says(desk, "show c", show_bench(bench + turned_bench(bench)))
            table = table_of(bench)
            self.says(desk, "table a", shown(table))
            self.says(desk, "apart a", show_bench(taken_apart(table)))
            rounds = rounds_of(table)
            self.says(desk, "rounds a", "never" if rounds is None else str(rounds))
            for y, u in rays:
                walk, at = walked(bench, (read_ratio(y), read_ratio(u)))
                self.says(desk, f"walk a {y} {u}", "by " + shown(walk[-1]) if at is None else f"stopped {at}")
                place = image_of(table, read_ratio(y))
                answer = "none" if place is None else shown([place, growth_of(table, read_ratio(y))])
                self.says(desk, f"image a {y}", answer)
            corners = field_of(bench, ((-3, 1), (3, 1), (-2, 1), (5, 2)))
            answer = ", ".join(shown(corner) for corner in corners) if corners else "none"
            self.says(desk, "field a -3 3 -2 5/2", answer)
            answer = self.sharp(bench, ((1, 1), (2, 1)), (-1, 1), (3, 1), (2, 1))
            kinds[answer.split()[0] if answer.isalpha() else "from"] = True
            self.says(desk, "sharp a 1 2 -1 3 2", answer)
        self.assertTrue("dark" in kinds and "from" in kinds, kinds)

    def sharp(self, bench, lamp, first, last, most):
        slants = slants_of(bench, lamp, first, last)
        if slants is None:
            return "dark"
        places = sharp_places(bench, lamp, slants, most)
        return shown(places[1:]) if places[0] == "from" else places[0]

    def test_asking_changes_nothing(self):
        desk = desk_with(a="gap 1; glass 1/2; stop -1 1", b="")
        for turn in range(2):
            answers = [desk.say(row_of(asked, "a")) for asked in ASKED]
            self.assertEqual([desk.say(row_of(asked, "a")) for asked in ASKED], answers)
            self.assertEqual(self.standing(desk), {"a": "gap 1; glass 1/2; stop -1 1", "b": ""})


class NoRowTest(DeskTest):
    def setUp(self):
        self.desk = desk_with(a="gap 1", b="glass 1")

    def test_what_is_no_text(self):
        for thing in no_lists() + no_ratios() + [["show", "a"], ("show", "a"), b"show a", ["show a"], {"show": "a"}]:
            if not isinstance(thing, str):
                self.refused(self.desk, thing, NoRow)

    def test_other_words(self):
        for row in [
            "", " ", "a", "x", "ok", "show", "lay a gap 1", "shows a", "sho a", "drop a", "none", "never", "help",
            "a show", "gap 1",
            "benches a gap 1", "benc a gap 1", "limits a", "foci a", "strength a", "growth a 1", "copy b a",
            "power a 2", "\n",
        ]:
            self.refused(self.desk, row, NoRow)

    def test_great_letters(self):
        for asked in ASKED:
            row = row_of(asked, "a")
            for wrong in [row.upper(), row.capitalize(), row_of(asked, "A")]:
                self.refused(self.desk, wrong, NoRow)
        for row in [
            "Bench a gap 1", "BENCH a gap 1", "bench A gap 1", "Join c a b", "join C a b", "join c A b", "join c a B",
        ]:
            self.refused(self.desk, row, NoRow)
        for row in ["Turn c a", "TURN c a", "turn C a", "turn c A"]:
            self.refused(self.desk, row, NoRow)

    def test_words_too_few_and_too_many(self):
        rows = [row_of(asked, "a") for asked in ASKED] + ["join c a b", "turn c a"]
        for row in rows:
            words = row.split(" ")
            for count in range(len(words)):
                if " ".join(words[:count]) not in rows:
                    self.refused(self.desk, " ".join(words[:count]), NoRow)
            for more in ["a", "1", "x", ";", "0"]:
                self.refused(self.desk, row + " " + more, NoRow)

    def test_blanks_ahead_amid_and_behind(self):
        for row in [row_of(asked, "a") for asked in ASKED] + ["join c a b", "turn c a"]:
            self.refused(self.desk, " " + row, NoRow)
            self.refused(self.desk, row + " ", NoRow)
            self.refused(self.desk, row + "\n", NoRow)
            for number, sign in enumerate(row):
                if sign == " ":
                    for instead in ["  ", "\t", "\n", ""]:
                        self.refused(self.desk, row[:number] + instead + row[number + 1:], NoRow)

    def test_names_that_are_none(self):
        for name in no_names():
            if isinstance(name, str):
                for asked in ASKED:
                    self.refused(self.desk, row_of(asked, name), NoRow)
                for row in [
                    f"join {name} a b", f"join c {name} b", f"join c a {name}", f"turn {name} a", f"turn c {name}",
                ]:
                    self.refused(self.desk, row, NoRow)

    def test_numbers_not_written_so(self):
        for asked in ASKED:
            words = row_of(asked, "a").split(" ")
            for place in range(2, len(words)):
                for number in NO_NUMBERS + [""]:
                    self.refused(self.desk, " ".join(words[:place] + [number] + words[place + 1:]), NoRow)

    def test_fifteen_figures_are_read(self):
        most = 10 ** 15 - 1
        self.says(self.desk, f"walk a {most} 0", f"by {most} 0")
        self.says(self.desk, f"walk a -{most}/{most - 1} 0", f"by -{most}/{most - 1} 0")

    def test_a_most_below_0(self):
        for most in ["-1", "-1/2", "-999999999999999", "-1/999999999999999"]:
            self.refused(self.desk, f"sharp a 0 1 0 1 {most}", NoRow)
            # Ahead of Unknown, and of what the stages refuse.
            self.refused(self.desk, f"sharp c 0 1 0 1 {most}", NoRow)
            self.refused(self.desk, f"sharp a 0 1 1 0 {most}", NoRow)
        # Other numbers may be below 0.
        self.says(self.desk, "sharp a -1 -1 -2 -1 0", "0 0")

    def test_ahead_of_unknown(self):
        for asked in ASKED:
            row = row_of(asked, "new")
            self.refused(self.desk, row, Unknown)
            for wrong in [row + " ", row + " x", " " + row, row.replace(" ", "  ", 1), row.upper()]:
                self.refused(self.desk, wrong, NoRow)
            for number in ["2/4", "x", ""]:
                if row.count(" ") > 1:
                    self.refused(self.desk, " ".join(row.split(" ")[:-1] + [number]), NoRow)
        for row in [
            "join c new B", "join c new 1", "join C new a", "turn C new", "join c new", "join c new a b",
            "turn c new a",
        ]:
            self.refused(self.desk, row, NoRow)


class UnknownTest(DeskTest):
    def test_nothing_stands(self):
        desk = Desk()
        for asked in ASKED:
            self.refused(desk, row_of(asked, "a"), Unknown)
        for row in ["join a a a", "join c a b", "turn a a", "turn c a"]:
            self.refused(desk, row, Unknown)
        self.assertEqual(self.standing(desk), {})

    def test_one_of_two(self):
        desk = desk_with(a="gap 1")
        for row in [
            "join c a b", "join c b a", "join b a b", "join b b a", "turn b b", "turn a b", "join a a b", "join a b a",
        ]:
            self.refused(desk, row, Unknown)

    def test_ahead_of_what_the_stages_refuse(self):
        desk = desk_with(a="60 times ( gap 1 )")
        self.refused(desk, "join c a b", Unknown)
        self.refused(desk, "field b 1 0 0 1", Unknown)
        self.refused(desk, "sharp b 0 1 1 0 1", Unknown)


class StagesTest(DeskTest):
    def test_no_box(self):
        desk = desk_with(a="gap 1", b="stop 90 91")
        for name in ["a", "b"]:
            for row in [
                "field {} 1 0 0 1", "field {} 0 1 1 0", "field {} 0 1 -1/3 -1/2", "sharp {} 0 1 1 0 1",
                "sharp {} 0 1 1/2 1/3 0",
            ]:
                self.refused(desk, row.format(name), NoBox)

    def test_what_is_refused_changes_nothing(self):
        desk = desk_with(a="60 times ( gap 1 )", b="gap 1")
        for row, kind in [
            ("join a a b", NoBench), ("join b a b", NoBench), ("bench a gap x", NoText), ("bench b", NoRow),
            ("turn b c", Unknown),
            ("field a 1 0 0 1", NoBox), (None, NoRow),
        ]:
            self.refused(desk, row, kind)
        self.says(desk, "show b", "gap 1")
        self.says(desk, "show a", "; ".join(["gap 1"] * 60))


class TwoDesksTest(DeskTest):
    def test_two_desks_know_nothing_of_one_another(self):
        one, other = Desk(), Desk()
        self.says(one, "bench a gap 1", "ok")
        self.refused(other, "show a", Unknown)
        self.says(other, "bench a glass 1", "ok")
        self.says(other, "bench b ", "ok")
        self.says(one, "show a", "gap 1")
        self.refused(one, "show b", Unknown)
        self.refused(Desk(), "show a", Unknown)

    def test_the_same_rows_have_the_same_answers(self):
        rows = ["bench a gap 1; stop 0 3/2", "turn b a", "join c a b"] + [row_of(asked, "c") for asked in ASKED]
        one, other = Desk(), Desk()
        for row in rows:
            self.says(other, row, one.say(row))

    def test_what_is_shown_is_read_again(self):
        desk = Desk()
        for bench in some_benches(132, 60, 20):
            desk.say("bench a " + show_bench(bench))
            self.assertEqual(read_bench(desk.say("show a")), bench)


if __name__ == "__main__":
    unittest.main()

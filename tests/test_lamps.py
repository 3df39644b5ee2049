"""Lamps: the slants that go by all stops, spots on a screen, and blur."""

import copy
import random
import unittest
from fractions import Fraction

from grindbench.errors import NoBench, NoBox
from grindbench.images import growth_of, image_of
from grindbench.lamps import blur_of, slants_of, spots_of
from grindbench.ratios import is_ratio
from grindbench.tables import table_of
from grindbench.walks import goes_by

from samples import (
    HALF_FORMS, height_on, lamp_of, meant, no_stretches, refuses_no_benches, some_benches, some_ratio, some_stretch,
    stop_heights, stop_of, told, walked,
)

GAP = ("gap", (1, 1))
LITTLE = Fraction(1, 10 ** 30)
LAMP = ((0, 1), (2, 1))


def shines(bench, lamp, slant):
    """Whether the light that a lamp sends with this slant goes by all stops, walked from the lamp on."""
    return walked([("gap", lamp[1])] + bench, (lamp[0], told(slant)))[1] is None


def slants_tried(bench, lamp, first, last):
    """The slants found in another way: at the ends and at all edges of stops, those that go by."""
    tried = [meant(first), meant(last)]
    whole = [("gap", lamp[1])] + bench
    flat = stop_heights(whole, (lamp[0], (0, 1)))
    risen = stop_heights(whole, (lamp[0], (1, 1)))
    for (number, start), (same, end) in zip(flat, risen):
        if start != end:
            tried += [(meant(edge) - meant(start)) / (meant(end) - meant(start)) for edge in whole[number][1:]]
    light = [slant for slant in tried if meant(first) <= slant <= meant(last) and shines(bench, lamp, slant)]
    return (told(min(light)), told(max(light))) if light else None


def drawn(seed, how_many, most_pieces=7):
    """Benches with lamps and stretches of slants, the same for the same seed."""
    source = random.Random(seed)
    benches = some_benches(seed, how_many, most_pieces)
    return [(bench, (some_ratio(source), some_ratio(source)), some_stretch(source)) for bench in benches]


class SlantsTest(unittest.TestCase):
    def same(self, bench, lamp, first, last, slants):
        answer = slants_of(bench, lamp, told(first), told(last))
        if slants is not None:
            self.assertIs(type(answer), tuple)
            slants = (told(slants[0]), told(slants[1]))
        self.assertEqual(answer, slants, (bench, lamp, first, last))

    def test_no_stops(self):
        for bench in [[], [GAP], [("glass", (1, 2)), GAP] * 30]:
            for lamp in [LAMP, lamp_of(-5, 0), lamp_of(Fraction(1, 3), -4)]:
                self.same(bench, lamp, -1, 1, (-1, 1))
                self.same(bench, lamp, Fraction(1, 7), Fraction(1, 7), (Fraction(1, 7), Fraction(1, 7)))

    def test_written_out(self):
        self.same([stop_of(-1, 1)], LAMP, -9, 9, (Fraction(-1, 2), Fraction(1, 2)))
        self.same([stop_of(-1, 1)], lamp_of(3, 2), -9, 9, (-2, -1))
        self.same([stop_of(-1, 1)], lamp_of(3, -2), -9, 9, (1, 2))
        self.same([GAP, stop_of(-1, 1)], lamp_of(1, 2), -9, 9, (Fraction(-2, 3), 0))
        self.same([("glass", (1, 1)), GAP, stop_of(-1, 3)], lamp_of(7, 5), -9, 9, (-1, 3))
        self.same([stop_of(-1, 1), GAP, stop_of(0, 4)], LAMP, -9, 9, (0, Fraction(1, 2)))

    def test_the_stretch_bounds_what_stops_let_by(self):
        bench = [stop_of(-1, 1)]
        self.same(bench, LAMP, 0, 9, (0, Fraction(1, 2)))
        self.same(bench, LAMP, -9, 0, (Fraction(-1, 2), 0))
        self.same(bench, LAMP, Fraction(-1, 3), Fraction(1, 3), (Fraction(-1, 3), Fraction(1, 3)))
        self.same(bench, LAMP, Fraction(-1, 2), Fraction(1, 2), (Fraction(-1, 2), Fraction(1, 2)))

    def test_one_slant_alone(self):
        half = Fraction(1, 2)
        self.same([stop_of(1, 1)], LAMP, -9, 9, (half, half))
        self.same([stop_of(1, 5)], LAMP, -9, half, (half, half))
        self.same([stop_of(-5, -1)], LAMP, -half, 9, (-half, -half))
        self.same([stop_of(-1, 1)], LAMP, half, 9, (half, half))
        self.same([stop_of(-1, 1)], LAMP, 0, 0, (0, 0))
        self.same([stop_of(-1, 1), GAP, stop_of(Fraction(3, 2), 9)], LAMP, -9, 9, (half, half))

    def test_none(self):
        self.same([stop_of(-1, 1)], LAMP, 1, 9, None)
        self.same([stop_of(-1, 1)], LAMP, -9, -1, None)
        self.same([stop_of(-1, 1)], LAMP, Fraction(1, 2) + LITTLE, 9, None)
        self.same([stop_of(-1, 1)], LAMP, 1, 1, None)
        self.same([stop_of(-1, 0), stop_of(1, 2)], LAMP, -9, 9, None)
        self.same([stop_of(-1, 1), GAP, stop_of(2, 3)], LAMP, -9, 9, None)
        self.same([stop_of(2, 3), GAP, stop_of(-1, 1), stop_of(-9, 9)], LAMP, -9, 9, None)

    def test_light_that_comes_to_a_stop_with_one_height(self):
        for bench, lamp, height in [
            ([], lamp_of(3, 0), 3), ([("gap", (-2, 1))], lamp_of(3, 2), 3),
            ([("glass", (1, 1)), ("gap", (2, 1))], lamp_of(3, 2), -3),
        ]:
            for low, high in [(height, height), (height - 1, height), (height, height + 1), (height - 9, height + 9)]:
                self.same(bench + [stop_of(low, high)], lamp, -4, 5, (-4, 5))
            for low, high in [(height + LITTLE, height + 1), (height - 1, height - LITTLE), (90, 91), (-91, -90)]:
                self.same(bench + [stop_of(low, high)], lamp, -4, 5, None)
                self.same(bench + [stop_of(low, high), GAP, stop_of(-99, 99)], lamp, -4, 5, None)

    def test_against_slants_tried(self):
        counts = {"none": 0, "one": 0, "more": 0}
        for bench, lamp, (first, last) in drawn(91, 500):
            asked = slants_tried(bench, lamp, first, last)
            self.assertEqual(slants_of(bench, lamp, first, last), asked, (bench, lamp, first, last))
            counts["none" if asked is None else "one" if asked[0] == asked[1] else "more"] += 1
        self.assertTrue(min(counts.values()) > 20, counts)

    def test_the_told_ends_go_by_and_a_little_beyond_does_not(self):
        cut = 0
        for bench, lamp, (first, last) in drawn(92, 400):
            slants = slants_of(bench, lamp, first, last)
            for part in range(13):
                slant = meant(first) + (meant(last) - meant(first)) * Fraction(part, 12)
                within = slants is not None and meant(slants[0]) <= slant <= meant(slants[1])
                self.assertIs(goes_by([("gap", lamp[1])] + bench, (lamp[0], told(slant))), within)
            if slants is None:
                continue
            self.assertTrue(is_ratio(slants[0]) and is_ratio(slants[1]))
            low, high = meant(slants[0]), meant(slants[1])
            self.assertTrue(meant(first) <= low <= high <= meant(last))
            for end, beyond, told_end in [(low, low - LITTLE, first), (high, high + LITTLE, last)]:
                self.assertTrue(shines(bench, lamp, end))
                if told(end) != told_end:
                    cut += 1
                    self.assertFalse(shines(bench, lamp, beyond))
        self.assertGreater(cut, 40)

    def test_sixty_pieces(self):
        bench = [stop_of(-9, 9), ("gap", (1, 7)), ("glass", (1, 5))] * 20
        self.assertEqual(slants_of(bench, LAMP, (-99, 1), (99, 1)), slants_tried(bench, LAMP, (-99, 1), (99, 1)))
        self.same([stop_of(-1, 1)] * 60, LAMP, -9, 9, (Fraction(-1, 2), Fraction(1, 2)))


class SpotsTest(unittest.TestCase):
    def same(self, bench, lamp, slants, t, spots):
        answer = spots_of(bench, lamp, slants, t)
        self.assertIs(type(answer), tuple)
        self.assertEqual(answer, (told(spots[0]), told(spots[1])))
        self.assertEqual(blur_of(bench, lamp, slants, t), told(spots[1] - spots[0]))

    def test_written_out(self):
        slants = ((-1, 1), (2, 1))
        self.same([], lamp_of(1, 2), slants, (3, 1), (-4, 11))
        self.same([], lamp_of(1, 2), slants, (-3, 1), (-1, 2))
        self.same([], lamp_of(1, 2), slants, (-2, 1), (1, 1))
        self.same([GAP], lamp_of(1, -4), slants, (0, 1), (-5, 4))
        glass = [("glass", (1, 2))]
        self.same(glass, lamp_of(1, 4), slants, (4, 1), (-1, -1))
        self.same(glass, lamp_of(1, 4), slants, (0, 1), (-3, 9))
        self.same(glass, lamp_of(1, 4), slants, (5, 1), (Fraction(-7, 2), Fraction(-1, 2)))

    def test_the_greater_height_at_the_first_slant_and_at_the_last(self):
        counts = {True: 0, False: 0}
        for bench, lamp, slants in drawn(93, 250):
            for t in HALF_FORMS[::3]:
                ends = [height_on(bench, lamp, meant(slant), t) for slant in slants]
                counts[ends[0] > ends[1]] += 1
                self.same(bench, lamp, slants, t, (min(ends), max(ends)))
        self.assertTrue(min(counts.values()) > 100, counts)

    def test_all_slants_amid_lie_between(self):
        for bench, lamp, slants in drawn(94, 60):
            for t in HALF_FORMS[:4]:
                low, high = [meant(end) for end in spots_of(bench, lamp, slants, t)]
                for part in range(6):
                    slant = meant(slants[0]) + (meant(slants[1]) - meant(slants[0])) * Fraction(part, 5)
                    self.assertTrue(low <= height_on(bench, lamp, slant, t) <= high)

    def test_as_if_no_stop_stopped_any(self):
        slants = ((-1, 1), (2, 1))
        shut = stop_of(90, 91)
        self.same([shut], lamp_of(1, 2), slants, (3, 1), (-4, 11))
        self.same([shut, ("glass", (1, 2)), shut], lamp_of(1, 4), slants, (0, 1), (-3, 9))

    def test_blur_of_0(self):
        sharp = 0
        for bench, lamp, slants in drawn(95, 150):
            table = table_of(bench)
            for t in HALF_FORMS:
                self.assertEqual(blur_of(bench, lamp, (slants[0], slants[0]), t), (0, 1))
            t = image_of(table, lamp[1])
            if t is not None and slants[0] != slants[1]:
                sharp += 1
                self.assertEqual(blur_of(bench, lamp, slants, t), (0, 1))
                height = told(meant(growth_of(table, lamp[1])) * meant(lamp[0]))
                self.assertEqual(spots_of(bench, lamp, slants, t), (height, height))
                for off in [LITTLE, -LITTLE, Fraction(3)]:
                    self.assertGreater(meant(blur_of(bench, lamp, slants, told(meant(t) + off))), 0)
        self.assertGreater(sharp, 50)

    def test_places_below_0(self):
        slants = ((-1, 1), (1, 1))
        for t in [-1, -5, Fraction(-1, 3)]:
            self.same([GAP], lamp_of(0, 0), slants, told(t), sorted([-1 - t, 1 + t]))
            self.same([GAP], lamp_of(0, -1), slants, told(t), (t, -t))


class RefusedTest(unittest.TestCase):
    def test_what_is_no_stretch(self):
        for first, last in no_stretches():
            for bench in [[], [GAP, stop_of(0, 1)], [stop_of(90, 91)]]:
                with self.assertRaises(NoBox, msg=repr((first, last))):
                    slants_of(bench, LAMP, first, last)

    def test_a_bench_that_is_none_ahead_of_all_else(self):
        slants = ((0, 1), (1, 1))
        asked = [
            lambda bench: slants_of(bench, LAMP, (0, 1), (1, 1)), lambda bench: slants_of(bench, LAMP, (1, 1), (0, 1)),
            lambda bench: slants_of(bench, None, None, None), lambda bench: spots_of(bench, LAMP, slants, (1, 1)),
            lambda bench: spots_of(bench, None, None, None), lambda bench: blur_of(bench, LAMP, slants, (1, 1)),
            lambda bench: blur_of(bench, None, None, None),
        ]
        for ask in asked:
            refuses_no_benches(self, ask)


class NothingHangsTest(unittest.TestCase):
    def test_what_is_handed_in_stays_as_it_is(self):
        benches = some_benches(96, 30, 10) + [[GAP, None], [["gap", [1, 1]]], [GAP] * 61]
        before = copy.deepcopy(benches)
        slants = ((0, 1), (1, 1))
        for bench in benches:
            for ask in [
                lambda: slants_of(bench, LAMP, (0, 1), (1, 1)), lambda: slants_of(bench, LAMP, (1, 1), (0, 1)),
                lambda: spots_of(bench, LAMP, slants, (3, 1)), lambda: blur_of(bench, LAMP, slants, (3, 1)),
            ]:
                try:
                    ask()
                except (NoBench, NoBox):
                    pass
        self.assertEqual(benches, before)

    def test_answers_stay_the_same_behind_a_refusal(self):
        bench = [stop_of(-1, 1), GAP]
        kept = slants_of(bench, LAMP, (-9, 1), (9, 1))
        for first, last in [((1, 1), (0, 1)), (None, None), ([0, 1], (1, 1))]:
            with self.assertRaises(NoBox):
                slants_of(bench, LAMP, first, last)
            self.assertEqual(slants_of(bench, LAMP, (-9, 1), (9, 1)), kept)


if __name__ == "__main__":
    unittest.main()

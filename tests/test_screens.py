"""The places of a screen at which a lamp, or each of some lamps, is sharp."""

import copy
import random
import unittest
from fractions import Fraction

from grindbench.errors import NoBench, NoBox
from grindbench.images import image_of
from grindbench.lamps import blur_of, slants_of
from grindbench.ratios import is_ratio
from grindbench.screens import sharp_for_all, sharp_places
from grindbench.tables import table_of

from samples import (
    HALF_FORMS, height_on, lamp_of, meant, no_stretches, refuses_no_benches, some_benches, some_ratio, some_stretch,
    stop_of, told,
)

GAP = ("gap", (1, 1))
GLASS = ("glass", (1, 1))
LITTLE = Fraction(1, 10 ** 30)
SLANTS = ((-1, 1), (1, 1))
NONE = ("none",)
ALL = ("all",)
PLACES = [Fraction(top, 6) for top in [-10 ** 9, -18, -3, 0, 2, 12, 10 ** 9]]


def places_of(start, end):
    return ("from", told(start), told(end))


def blur_on(bench, lamp, slants, t):
    """The blur on a screen, walked as if no stop stopped any, in numbers of Python's own."""
    return abs(height_on(bench, lamp, meant(slants[1]), told(t)) - height_on(bench, lamp, meant(slants[0]), told(t)))


def places_found(bench, lamp, slants, most):
    """The sharp places found in another way: from the blur with its sign at 0 and at 1, which goes on evenly."""
    first, last = meant(slants[0]), meant(slants[1])
    at_0 = height_on(bench, lamp, last, (0, 1)) - height_on(bench, lamp, first, (0, 1))
    at_1 = height_on(bench, lamp, last, (1, 1)) - height_on(bench, lamp, first, (1, 1))
    if at_0 == at_1:
        return ALL if abs(at_0) <= meant(most) else NONE
    ends = sorted([(edge - at_0) / (at_1 - at_0) for edge in [meant(most), -meant(most)]])
    return places_of(ends[0], ends[1])


def drawn(seed, how_many, most_pieces=7):
    """Benches with lamps, stretches of slants and mosts, the same for the same seed."""
    source = random.Random(seed)
    cases = []
    for bench in some_benches(seed, how_many, most_pieces):
        most = told(abs(meant(some_ratio(source))))
        cases.append((bench, (some_ratio(source), some_ratio(source)), some_stretch(source), most))
    return cases


class PlacesTest(unittest.TestCase):
    def same(self, bench, lamp, slants, most, places):
        answer = sharp_places(bench, lamp, slants, told(most))
        self.assertIs(type(answer), tuple)
        self.assertEqual(answer, places, (bench, lamp, slants, most))

    def test_written_out(self):
        self.same([], lamp_of(0, 2), SLANTS, 1, places_of(Fraction(-5, 2), Fraction(-3, 2)))
        self.same([GAP], lamp_of(5, 2), SLANTS, 2, places_of(-4, -2))
        glass = [("glass", (1, 2))]
        self.same(glass, lamp_of(3, 4), SLANTS, 1, places_of(Fraction(7, 2), Fraction(9, 2)))
        self.same(glass, lamp_of(3, 4), ((0, 1), (1, 1)), 1, places_of(3, 5))
        self.same(glass, lamp_of(3, 1), SLANTS, 1, places_of(-3, -1))

    def test_a_most_of_0(self):
        self.same([("glass", (1, 2))], lamp_of(3, 4), SLANTS, 0, places_of(4, 4))
        self.same([], lamp_of(3, 4), SLANTS, 0, places_of(-4, -4))
        self.same([GLASS], lamp_of(3, 1), SLANTS, 0, NONE)
        self.same([GLASS], lamp_of(3, 1), ((1, 1), (1, 1)), 0, ALL)

    def test_slants_that_are_one(self):
        for bench in [[], [GLASS], [GLASS, GAP], [stop_of(90, 91)]]:
            for place in [0, 1, -3]:
                for most in [0, LITTLE, 5]:
                    self.same(bench, lamp_of(2, place), ((7, 2), (7, 2)), most, ALL)

    def test_light_that_leaves_with_one_slant(self):
        for height in [0, 2, -5]:
            self.same([GLASS], lamp_of(height, 1), SLANTS, 2, ALL)
            self.same([GLASS], lamp_of(height, 1), SLANTS, 3, ALL)
            self.same([GLASS], lamp_of(height, 1), SLANTS, 2 - LITTLE, NONE)
            self.same([GLASS], lamp_of(height, 1), SLANTS, 0, NONE)
            self.same([("glass", (-1, 1))], lamp_of(height, -1), SLANTS, 2, ALL)
            self.same([("glass", (-1, 1))], lamp_of(height, -1), SLANTS, Fraction(3, 2), NONE)

    def test_as_if_no_stop_stopped_any(self):
        self.same([stop_of(90, 91)], lamp_of(0, 2), SLANTS, 1, places_of(Fraction(-5, 2), Fraction(-3, 2)))

    def test_a_most_below_0_is_met_nowhere(self):
        for bench, lamp, slants in [
            ([], lamp_of(0, 2), SLANTS), ([GLASS], lamp_of(0, 1), SLANTS), ([], lamp_of(0, 0), ((0, 1),) * 2),
        ]:
            self.same(bench, lamp, slants, -LITTLE, NONE)
            self.same(bench, lamp, slants, -3, NONE)

    def test_against_places_found(self):
        kinds = {"none": 0, "all": 0, "from": 0}
        for bench, lamp, slants, most in drawn(101, 400):
            asked = places_found(bench, lamp, slants, most)
            kinds[asked[0]] += 1
            self.same(bench, lamp, slants, meant(most), asked)
            # The place whose light leaves with one slant, where there is one.
            table = table_of(bench)
            if table[2] != (0, 1):
                lamp = (lamp[0], told(-meant(table[3]) / meant(table[2])))
                asked = places_found(bench, lamp, slants, most)
                kinds[asked[0]] += 1
                self.assertIn(asked, [ALL, NONE])
                self.same(bench, lamp, slants, meant(most), asked)
        self.assertTrue(min(kinds.values()) > 30, kinds)

    def test_ends_against_blur(self):
        for bench, lamp, slants, most in drawn(102, 250):
            places = sharp_places(bench, lamp, slants, most)
            if places[0] != "from":
                for t in PLACES:
                    self.assertEqual(blur_on(bench, lamp, slants, t) <= meant(most), places == ALL)
                continue
            self.assertEqual(len(places), 3)
            self.assertTrue(is_ratio(places[1]) and is_ratio(places[2]))
            start, end = meant(places[1]), meant(places[2])
            self.assertLessEqual(start, end)
            self.assertEqual(start == end, most == (0, 1))
            self.assertEqual(told((start + end) / 2), image_of(table_of(bench), lamp[1]))
            for t in [start, end]:
                self.assertEqual(blur_on(bench, lamp, slants, t), meant(most))
                self.assertEqual(blur_of(bench, lamp, slants, told(t)), most)
            for t in [start - LITTLE, end + LITTLE, start - 9, end + 9]:
                self.assertGreater(blur_on(bench, lamp, slants, t), meant(most))
            for part in range(1, 6):
                amid = start + (end - start) * Fraction(part, 6)
                self.assertLessEqual(blur_on(bench, lamp, slants, amid), meant(most))

    def test_sixty_pieces(self):
        bench = [("gap", (1, 7)), ("glass", (1, 5))] * 30
        self.assertEqual(
            sharp_places(bench, lamp_of(1, 3), SLANTS, (1, 9)), places_found(bench, lamp_of(1, 3), SLANTS, (1, 9))
        )


class ForAllTest(unittest.TestCase):
    def same(self, bench, lamps, most, places, first=-1, last=1):
        answer = sharp_for_all(bench, lamps, told(first), told(last), told(most))
        self.assertIs(type(answer), tuple)
        self.assertEqual(answer, places, (bench, lamps, most))

    def test_no_lamps(self):
        for bench in [[], [GLASS], [stop_of(90, 91)]]:
            for most in [0, 3, LITTLE]:
                self.same(bench, [], most, ALL)

    def test_lamps_without_light(self):
        bench = [stop_of(90, 91)]
        self.same(bench, [lamp_of(0, 2)], 0, ALL)
        self.same(bench, [lamp_of(0, 2), lamp_of(5, 3), lamp_of(0, 0)], 0, ALL)

    def test_one_lamp(self):
        self.same([], [lamp_of(0, 2)], 1, places_of(Fraction(-5, 2), Fraction(-3, 2)))
        self.same([GLASS], [lamp_of(0, 1)], 2, ALL)
        self.same([GLASS], [lamp_of(0, 1)], 1, NONE)
        for bench, lamp, slants, most in drawn(103, 150):
            light = slants_of(bench, lamp, slants[0], slants[1])
            asked = ALL if light is None else places_found(bench, lamp, light, most)
            self.same(bench, [lamp], meant(most), asked, meant(slants[0]), meant(slants[1]))
            self.same(bench, [lamp, lamp], meant(most), asked, meant(slants[0]), meant(slants[1]))

    def test_the_slants_that_come_through_count(self):
        # The stop leaves half of the slants, so that the stretch is twice as long.
        self.same([stop_of(-1, 1)], [lamp_of(0, 2)], 1, places_of(-3, -1))

    def test_stretches_that_meet_touch_and_do_not_meet(self):
        near, far = lamp_of(0, 2), lamp_of(7, 3)
        for lamps in [[near, far], [far, near], [near, far, near]]:
            self.same([], lamps, 3, places_of(Fraction(-7, 2), Fraction(-3, 2)))
            self.same([], lamps, 2, places_of(-3, -2))
            self.same([], lamps, 1, places_of(Fraction(-5, 2), Fraction(-5, 2)))
            self.same([], lamps, 1 - LITTLE, NONE)
            self.same([], lamps, 0, NONE)
        self.same([], [near, lamp_of(-4, 2), lamp_of(9, 2)], 0, places_of(-2, -2))

    def test_all_and_none_among_them(self):
        flat, dark, other = lamp_of(0, 1), lamp_of(90, 0), lamp_of(0, 2)
        bench = [stop_of(-9, 9), GLASS]
        for lamps in [[flat, other], [other, flat], [flat, dark, other], [dark, other, flat, dark]]:
            self.same(bench, lamps, 2, places_of(1, 3))
            self.same(bench, lamps, 1, NONE)
            self.same(bench, lamps, 0, NONE)
        self.same(bench, [flat, flat, dark], 2, ALL)
        self.same(bench, [dark, other], 1, places_of(Fraction(3, 2), Fraction(5, 2)))

    def test_none_stays_none(self):
        flat, near, far = lamp_of(0, 1), lamp_of(0, 2), lamp_of(0, 9)
        for lamps in [[near, far, near], [near, far, far], [near, far, flat], [flat, near], [near, flat, far]]:
            self.same([GLASS], lamps, Fraction(1, 9), NONE)

    def test_many_against_blur(self):
        source = random.Random(104)
        kinds = {"none": 0, "all": 0, "from": 0}
        for bench in some_benches(104, 200, 5):
            lamps = [(some_ratio(source), some_ratio(source)) for turn in range(source.randint(1, 4))]
            first, last = some_stretch(source)
            most = told(abs(meant(some_ratio(source, 9))))
            places = sharp_for_all(bench, lamps, first, last, most)
            kinds[places[0]] += 1
            lit = [(lamp, slants_of(bench, lamp, first, last)) for lamp in lamps]
            lit = [(lamp, slants) for lamp, slants in lit if slants is not None]
            tried = PLACES + [-meant(one) for one in HALF_FORMS]
            for lamp, slants in lit:
                found = places_found(bench, lamp, slants, most)
                tried += [meant(end) + off for end in found[1:] for off in [0, LITTLE, -LITTLE]]
            for t in tried:
                asked = all(blur_on(bench, lamp, slants, t) <= meant(most) for lamp, slants in lit)
                within = places == ALL or places[0] == "from" and meant(places[1]) <= t <= meant(places[2])
                self.assertEqual(within, asked, (bench, lamps, first, last, most, t))
        self.assertTrue(min(kinds.values()) > 10, kinds)


class RefusedTest(unittest.TestCase):
    def test_what_is_no_stretch(self):
        for first, last in no_stretches():
            for bench in [[], [GAP, stop_of(0, 1)], [stop_of(90, 91)]]:
                for lamps in [[], [lamp_of(0, 1)], [lamp_of(0, 1), lamp_of(2, 3)]]:
                    with self.assertRaises(NoBox, msg=repr((first, last))):
                        sharp_for_all(bench, lamps, first, last, (1, 1))

    def test_a_bench_that_is_none_ahead_of_all_else(self):
        lamp = lamp_of(0, 1)
        asked = [
            lambda bench: sharp_places(bench, lamp, SLANTS, (1, 1)),
            lambda bench: sharp_places(bench, None, None, None),
            lambda bench: sharp_for_all(bench, [lamp], (0, 1), (1, 1), (1, 1)),
            lambda bench: sharp_for_all(bench, [lamp], (1, 1), (0, 1), (1, 1)),
            lambda bench: sharp_for_all(bench, [], (1, 1), (0, 1), (1, 1)),
            lambda bench: sharp_for_all(bench, [], (0, 1), (1, 1), (1, 1)),
            lambda bench: sharp_for_all(bench, None, None, None, None),
        ]
        for ask in asked:
            refuses_no_benches(self, ask)


class NothingHangsTest(unittest.TestCase):
    def test_what_is_handed_in_stays_as_it_is(self):
        benches = some_benches(105, 30, 10) + [[GAP, None], [["gap", [1, 1]]], [GAP] * 61]
        lamps = [lamp_of(0, 1), lamp_of(2, 3), lamp_of(0, 1)]
        before = copy.deepcopy((benches, lamps))
        for bench in benches:
            for first, last in [((0, 1), (1, 1)), ((1, 1), (0, 1))]:
                try:
                    sharp_for_all(bench, lamps, first, last, (1, 1))
                except (NoBench, NoBox):
                    pass
        self.assertEqual((benches, lamps), before)

    def test_answers_stay_the_same_behind_a_refusal(self):
        lamps = [lamp_of(0, 2)]
        kept = sharp_for_all([GLASS], lamps, (0, 1), (1, 1), (1, 1))
        for wrong in [((1, 1), (0, 1)), (None, (1, 1))]:
            with self.assertRaises(NoBox):
                sharp_for_all([GLASS], lamps, wrong[0], wrong[1], (1, 1))
            self.assertEqual(sharp_for_all([GLASS], lamps, (0, 1), (1, 1), (1, 1)), kept)


if __name__ == "__main__":
    unittest.main()

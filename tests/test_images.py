"""Images, growths, foci and strength, against rays walked piece by piece."""

import copy
import unittest
from fractions import Fraction

from grindbench.errors import NoTable
from grindbench.images import foci_of, growth_of, image_of, strength_of
from grindbench.ratios import is_ratio
from grindbench.tables import put_behind, table_of

from samples import (
    HALF_FORMS, RATIOS, meant, no_tables, some_benches, some_tables, table_told, told, walked,
)

HEIGHTS = [(0, 1), (1, 1), (-3, 2)]
SLANTS = [(0, 1), (1, 1), (-1, 2), (7, 1)]
BENCHES = some_benches(41, 60, 8, ("gap", "glass")) + [[], [("gap", (0, 1))], [("glass", (1, 2))], [("glass", (-1, 2))]]


def behind(bench, ahead, height, slant, after):
    """The ray that left a point ahead of a bench, at a place behind it."""
    return walked([("gap", ahead)] + bench + [("gap", after)], (height, slant))[0][-1]


class ImageTest(unittest.TestCase):
    def test_written_out(self):
        glass = table_of([("glass", (1, 2))])
        self.assertEqual(image_of(glass, (4, 1)), (4, 1))
        self.assertEqual(growth_of(glass, (4, 1)), (-1, 1))
        self.assertEqual(image_of(glass, (3, 1)), (6, 1))
        self.assertEqual(growth_of(glass, (3, 1)), (-2, 1))
        self.assertEqual(image_of(glass, (1, 1)), (-2, 1))
        self.assertEqual(growth_of(glass, (1, 1)), (2, 1))
        self.assertEqual(image_of(glass, (0, 1)), (0, 1))
        self.assertEqual(growth_of(glass, (0, 1)), (1, 1))
        self.assertIsNone(image_of(glass, (2, 1)))
        self.assertIsNone(growth_of(glass, (2, 1)))

    def test_through_no_pieces_and_gaps(self):
        for s in RATIOS:
            self.assertEqual(image_of(table_of([]), s), told(-meant(s)))
            self.assertEqual(growth_of(table_of([]), s), (1, 1))
            for length in RATIOS:
                table = table_of([("gap", length)])
                self.assertEqual(image_of(table, s), told(-meant(s) - meant(length)))
                self.assertEqual(growth_of(table, s), (1, 1))

    def test_against_rays_walked_piece_by_piece(self):
        told_places = 0
        for bench in BENCHES:
            table = table_of(bench)
            for s in HALF_FORMS:
                t = image_of(table, s)
                growth = growth_of(table, s)
                self.assertEqual(t is None, growth is None)
                if t is None:
                    self.all_leave_with_one_slant(bench, s)
                    continue
                told_places += 1
                self.assertIs(is_ratio(t), True)
                self.assertIs(is_ratio(growth), True)
                for height in HEIGHTS:
                    asked = told(meant(height) * meant(growth))
                    for slant in SLANTS:
                        self.assertEqual(behind(bench, s, height, slant, t)[0], asked)
        self.assertGreater(told_places, 100)

    def all_leave_with_one_slant(self, bench, s):
        """Rays of a point that leave side by side, apart from one another, meet nowhere."""
        for height in HEIGHTS:
            rays = [behind(bench, s, height, slant, (0, 1)) for slant in SLANTS]
            self.assertEqual(len({ray[1] for ray in rays}), 1)
            self.assertEqual(len({ray[0] for ray in rays}), len(SLANTS))

    def test_the_place_whose_light_leaves_with_one_slant(self):
        for bench in BENCHES:
            table = table_of(bench)
            foci = foci_of(table)
            if foci is not None:
                self.assertIsNone(image_of(table, foci[0]))
                self.assertIsNone(growth_of(table, foci[0]))
                self.all_leave_with_one_slant(bench, foci[0])
                for other in HALF_FORMS:
                    if other != foci[0]:
                        self.assertIsNotNone(image_of(table, other))
                        self.assertIsNotNone(growth_of(table, other))

    def test_only_at_the_told_place_rays_meet(self):
        for bench in BENCHES[::5]:
            table = table_of(bench)
            for s in HALF_FORMS[:4]:
                t = image_of(table, s)
                for off in HALF_FORMS:
                    if t is not None and off != (0, 1):
                        place = told(meant(t) + meant(off))
                        heights = {behind(bench, s, (1, 1), slant, place)[0] for slant in SLANTS}
                        self.assertEqual(len(heights), len(SLANTS))

    def test_strength_0_has_an_image_of_each_place(self):
        for table in [table_told(2, 5, 0, Fraction(1, 2)), table_told(-1, 0, 0, -1), table_told(1, 3, 0, 1)]:
            for s in RATIOS:
                a, b, c, d = [meant(part) for part in table]
                self.assertEqual(image_of(table, s), told(-(a * meant(s) + b) / d))
                self.assertEqual(growth_of(table, s), told(1 / d))

    def test_growths_of_two_benches_are_multiplied(self):
        multiplied = 0
        for first in BENCHES[::3]:
            for second in BENCHES[::4]:
                both = put_behind(table_of(first), table_of(second))
                for s in HALF_FORMS:
                    t = image_of(table_of(first), s)
                    if t is None:
                        continue
                    ahead = told(-meant(t))
                    asked = image_of(table_of(second), ahead)
                    self.assertEqual(image_of(both, s), asked)
                    if asked is None:
                        self.assertIsNone(growth_of(both, s))
                        continue
                    multiplied += 1
                    growths = meant(growth_of(table_of(first), s)) * meant(growth_of(table_of(second), ahead))
                    self.assertEqual(growth_of(both, s), told(growths))
        self.assertGreater(multiplied, 100)

    def test_the_image_of_the_image_sent_back(self):
        for table in some_tables(42, 40):
            turned = (table[3], table[1], table[2], table[0])
            for s in HALF_FORMS:
                t = image_of(table, s)
                if t is not None:
                    self.assertEqual(image_of(turned, t), s)
                    self.assertEqual(growth_of(turned, t), told(1 / meant(growth_of(table, s))))


class FociTest(unittest.TestCase):
    def test_written_out(self):
        self.assertEqual(foci_of(table_of([("glass", (1, 2))])), ((2, 1), (2, 1)))
        self.assertEqual(foci_of(table_of([("glass", (-1, 2))])), ((-2, 1), (-2, 1)))
        self.assertEqual(foci_of(table_of([("gap", (1, 1)), ("glass", (1, 2))])), ((1, 1), (2, 1)))
        self.assertEqual(foci_of(table_of([("glass", (1, 2)), ("gap", (1, 1))])), ((2, 1), (1, 1)))
        self.assertEqual(foci_of(table_told(0, 1, -1, 0)), ((0, 1), (0, 1)))

    def test_against_rays_walked_piece_by_piece(self):
        with_foci = 0
        for bench in BENCHES:
            foci = foci_of(table_of(bench))
            if foci is None:
                continue
            with_foci += 1
            self.assertIs(type(foci), tuple)
            self.assertEqual(len(foci), 2)
            for height in HEIGHTS:
                self.assertEqual(len({behind(bench, foci[0], height, slant, (0, 1))[1] for slant in SLANTS}), 1)
                self.assertEqual(behind(bench, (0, 1), height, (0, 1), foci[1])[0], (0, 1))
        self.assertGreater(with_foci, 30)

    def test_none_where_the_strength_is_0(self):
        for table in [table_of([]), table_told(1, 5, 0, 1), table_told(-1, 0, 0, -1), table_told(3, 2, 0, Fraction(1, 3))]:
            self.assertIsNone(foci_of(table))
            self.assertEqual(strength_of(table), (0, 1))
        for table in some_tables(43, 60):
            self.assertEqual(foci_of(table) is None, strength_of(table) == (0, 1))

    def test_strength(self):
        for one in RATIOS:
            self.assertEqual(strength_of(table_of([("glass", one)])), one)
            self.assertEqual(strength_of(table_of([("gap", (2, 1)), ("glass", one), ("gap", (-5, 3))])), one)
            self.assertEqual(strength_of(table_of([("glass", one), ("glass", (1, 2))])), told(meant(one) + Fraction(1, 2)))
        for table in some_tables(44, 60):
            self.assertEqual(strength_of(table), told(-meant(table[2])))


class RefusedTest(unittest.TestCase):
    def test_what_is_no_table(self):
        for thing in no_tables():
            for asked in [
                lambda: image_of(thing, (1, 1)), lambda: growth_of(thing, (1, 1)), lambda: foci_of(thing),
                lambda: strength_of(thing),
            ]:
                with self.assertRaises(NoTable, msg=repr(thing)):
                    asked()

    def test_what_is_handed_in_stays_as_it_is(self):
        things = [thing for thing in no_tables() if isinstance(thing, (list, dict, set))]
        before = copy.deepcopy(things)
        for thing in things:
            for asked in [lambda: image_of(thing, (1, 1)), lambda: foci_of(thing)]:
                with self.assertRaises(NoTable):
                    asked()
        self.assertEqual(things, before)

    def test_answers_stay_the_same_behind_a_refusal(self):
        table = table_of([("glass", (1, 2))])
        for turn in range(3):
            self.assertEqual(image_of(table, (4, 1)), (4, 1), turn)
            with self.assertRaises(NoTable):
                image_of(None, (4, 1))
            self.assertEqual(foci_of(table), ((2, 1), (2, 1)), turn)


if __name__ == "__main__":
    unittest.main()

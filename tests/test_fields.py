"""Fields of benches in boxes: their corners, what is within them, and their size."""

import copy
import random
import unittest
from fractions import Fraction

from grindbench.errors import NoBench, NoBox
from grindbench.fields import field_of, is_within, size_of
from grindbench.ratios import is_ratio
from grindbench.walks import goes_by

from samples import (
    RAYS, field_by_lines, is_in_box, meant, no_boxes, refuses_no_benches, some_benches, some_box, stop_heights, stop_of,
    told, turned_left, walked,
)

GAP = ("gap", (1, 1))
BOX = ((-2, 1), (2, 1), (-1, 1), (1, 1))
WHOLE = [((-2, 1), (-1, 1)), ((2, 1), (-1, 1)), ((2, 1), (1, 1)), ((-2, 1), (1, 1))]
LITTLE = Fraction(1, 10 ** 30)
HALF = Fraction(1, 2)
THIRD = Fraction(1, 3)


def ray_of(height, slant):
    return (told(height), told(slant))


def point_of(ray):
    return (meant(ray[0]), meant(ray[1]))


def between(one, other, part=HALF):
    """A ray on the way from one to the other."""
    return ray_of(*[meant(a) + part * (meant(b) - meant(a)) for a, b in zip(one, other)])


def off_edges(corners):
    """For each edge of three or more corners: a ray on it, one a little within, and one a little off it."""
    for number, end in enumerate(corners):
        start = corners[number - 1]
        along = (meant(end[0]) - meant(start[0]), meant(end[1]) - meant(start[1]))
        on = between(start, end)
        left = ray_of(meant(on[0]) - LITTLE * along[1], meant(on[1]) + LITTLE * along[0])
        right = ray_of(meant(on[0]) + LITTLE * along[1], meant(on[1]) - LITTLE * along[0])
        yield on, left, right


def drawn(seed, how_many, most_pieces=7):
    """Benches with boxes, the same for the same seed."""
    source = random.Random(seed)
    return [(bench, some_box(source)) for bench in some_benches(seed, how_many, most_pieces)]


class FieldsTest(unittest.TestCase):
    def in_form(self, corners):
        """A list of rays in the told order, none of them between two others."""
        self.assertIs(type(corners), list)
        for ray in corners:
            self.assertIs(type(ray), tuple)
            self.assertEqual(len(ray), 2)
            self.assertTrue(is_ratio(ray[0]) and is_ratio(ray[1]))
        points = [point_of(ray) for ray in corners]
        self.assertEqual(len(set(points)), len(points))
        if points:
            self.assertEqual(points[0], min(points))
        if len(points) > 2:
            for number in range(len(points)):
                start, end = points[number - 2], points[number - 1]
                for other in points:
                    if other not in (start, end):
                        self.assertGreater(turned_left(start, end, other), 0)

    def same(self, bench, box, corners):
        told_corners = field_of(bench, box)
        self.in_form(told_corners)
        self.assertEqual(told_corners, corners, (bench, box))


class CornersTest(FieldsTest):
    def test_no_stops(self):
        for bench in [[], [GAP], [("glass", (1, 2)), GAP] * 30]:
            self.same(bench, BOX, WHOLE)

    def test_no_ray(self):
        self.same([stop_of(3, 4)], BOX, [])
        self.same([stop_of(-4, -3)], BOX, [])
        self.same([stop_of(2 + LITTLE, 4)], BOX, [])
        self.same([stop_of(-1, 0), stop_of(1, 2)], BOX, [])
        self.same([stop_of(0, 0), ("gap", (1, 1)), stop_of(2, 3)], BOX, [])

    def test_one_ray(self):
        self.same([("gap", (2, 1)), stop_of(4, 9)], BOX, [ray_of(2, 1)])
        self.same([("gap", (2, 1)), stop_of(-9, -4)], BOX, [ray_of(-2, -1)])
        self.same([("gap", (-2, 1)), stop_of(4, 9)], BOX, [ray_of(2, -1)])
        self.same([stop_of(1, 1), GAP, stop_of(1, 1)], BOX, [ray_of(1, 0)])
        self.same([stop_of(1, 2), GAP, stop_of(3, 4)], BOX, [ray_of(2, 1)])
        self.same([stop_of(THIRD, THIRD), GAP, stop_of(1, 1)], BOX, [ray_of(THIRD, 2 * THIRD)])

    def test_two_ends_with_the_lesser_first(self):
        self.same([stop_of(1, 1)], BOX, [ray_of(1, -1), ray_of(1, 1)])
        self.same([stop_of(2, 5)], BOX, [ray_of(2, -1), ray_of(2, 1)])
        self.same([stop_of(-5, -2)], BOX, [ray_of(-2, -1), ray_of(-2, 1)])
        self.same([GAP, stop_of(1, 1)], BOX, [ray_of(0, 1), ray_of(2, -1)])
        self.same([("gap", (-1, 1)), stop_of(0, 0)], BOX, [ray_of(-1, -1), ray_of(1, 1)])
        self.same([("glass", (1, 2)), ("gap", (2, 1)), stop_of(1, 1)], BOX, [ray_of(-2, HALF), ray_of(2, HALF)])
        self.same([("glass", (1, 2)), ("gap", (2, 1)), stop_of(2, 3)], BOX, [ray_of(-2, 1), ray_of(2, 1)])

    def test_a_line_cut_again(self):
        line = [GAP, stop_of(1, 1), ("gap", (-1, 1))]
        self.same(line + [stop_of(1, 9)], BOX, [ray_of(1, 0), ray_of(2, -1)])
        self.same(line + [stop_of(-9, 1)], BOX, [ray_of(0, 1), ray_of(1, 0)])
        self.same(line + [stop_of(HALF, Fraction(3, 2))], BOX, [
            ray_of(HALF, HALF), ray_of(Fraction(3, 2), -HALF),
        ])
        self.same(line + [stop_of(1, 1)], BOX, [ray_of(1, 0)])
        self.same(line + [stop_of(0, 2)], BOX, [ray_of(0, 1), ray_of(2, -1)])
        self.same(line + [stop_of(-9, 0)], BOX, [ray_of(0, 1)])
        self.same(line + [stop_of(2, 9)], BOX, [ray_of(2, -1)])
        self.same(line + [stop_of(-9, -1)], BOX, [])
        self.same(line + [stop_of(3, 9)], BOX, [])

    def test_boxes_without_breadth(self):
        box = ((1, 1), (1, 1), (-1, 1), (2, 1))
        self.same([], box, [ray_of(1, -1), ray_of(1, 2)])
        self.same([stop_of(0, 1)], box, [ray_of(1, -1), ray_of(1, 2)])
        self.same([stop_of(2, 3)], box, [])
        self.same([GAP, stop_of(1, 2)], box, [ray_of(1, 0), ray_of(1, 1)])
        self.same([GAP, stop_of(3, 9)], box, [ray_of(1, 2)])
        self.same([GAP, stop_of(2, 2)], box, [ray_of(1, 1)])

    def test_boxes_without_height(self):
        box = ((-1, 1), (2, 1), (1, 1), (1, 1))
        self.same([], box, [ray_of(-1, 1), ray_of(2, 1)])
        self.same([stop_of(0, 1)], box, [ray_of(0, 1), ray_of(1, 1)])
        self.same([GAP, stop_of(1, 2)], box, [ray_of(0, 1), ray_of(1, 1)])
        self.same([stop_of(2, 3)], box, [ray_of(2, 1)])
        self.same([stop_of(3, 4)], box, [])

    def test_boxes_without_both(self):
        box = ((1, 1), (1, 1), (2, 1), (2, 1))
        self.same([], box, [ray_of(1, 2)])
        self.same([stop_of(1, 1), GAP, stop_of(3, 9)], box, [ray_of(1, 2)])
        self.same([GAP, stop_of(4, 9)], box, [])

    def test_stops_that_cut_off_no_corner(self):
        self.same([stop_of(-2, 2)], BOX, WHOLE)
        self.same([stop_of(-9, 9), GAP, stop_of(-9, 9), ("gap", (-9, 1)), stop_of(-99, 99)], BOX, WHOLE)
        self.same([GAP, stop_of(-3, 3)], BOX, WHOLE)

    def test_stops_that_cut_off_one_corner_and_two(self):
        self.same([GAP, stop_of(-9, 2)], BOX, [
            ray_of(-2, -1), ray_of(2, -1), ray_of(2, 0), ray_of(1, 1), ray_of(-2, 1),
        ])
        self.same([GAP, stop_of(-2, 9)], BOX, [
            ray_of(-2, 0), ray_of(-1, -1), ray_of(2, -1), ray_of(2, 1), ray_of(-2, 1),
        ])
        self.same([GAP, stop_of(-2, 2)], BOX, [
            ray_of(-2, 0), ray_of(-1, -1), ray_of(2, -1), ray_of(2, 0), ray_of(1, 1), ray_of(-2, 1),
        ])
        self.same([stop_of(-1, 9)], BOX, [ray_of(-1, -1), ray_of(2, -1), ray_of(2, 1), ray_of(-1, 1)])
        self.same([("glass", (1, 2)), ("gap", (2, 1)), stop_of(-1, 1)], BOX, [
            ray_of(-2, -HALF), ray_of(2, -HALF), ray_of(2, HALF), ray_of(-2, HALF),
        ])

    def test_stops_that_cut_off_three_corners_and_all(self):
        self.same([GAP, stop_of(2, 9)], BOX, [ray_of(1, 1), ray_of(2, 0), ray_of(2, 1)])
        self.same([stop_of(-1, 1), GAP, stop_of(-1, 1)], BOX, [
            ray_of(-1, 0), ray_of(0, -1), ray_of(1, -1), ray_of(1, 0), ray_of(0, 1), ray_of(-1, 1),
        ])
        small = [stop_of(-1, 1), ("glass", (1, 1)), GAP, stop_of(-HALF, HALF)]
        self.same(small, BOX, [
            ray_of(-1, -HALF), ray_of(1, -HALF), ray_of(1, HALF), ray_of(-1, HALF),
        ])

    def test_an_edge_through_a_corner(self):
        self.same([GAP, stop_of(-9, 3)], BOX, WHOLE)
        self.same([GAP, stop_of(3, 9)], BOX, [ray_of(2, 1)])
        self.same([GAP, stop_of(-9, 1)], BOX, [ray_of(-2, -1), ray_of(2, -1), ray_of(0, 1), ray_of(-2, 1)])
        through_two = [("gap", (2, 1)), stop_of(-9, 0)]
        self.same(through_two, BOX, [ray_of(-2, -1), ray_of(2, -1), ray_of(-2, 1)])
        self.same([("gap", (2, 1)), stop_of(0, 9)], BOX, [ray_of(-2, 1), ray_of(2, -1), ray_of(2, 1)])
        self.same([("gap", (2, 1)), stop_of(0, 0)], BOX, [ray_of(-2, 1), ray_of(2, -1)])
        self.same([("gap", (-2, 1)), stop_of(0, 0)], BOX, [ray_of(-2, -1), ray_of(2, 1)])

    def test_stops_told_twice(self):
        for bench in [[GAP, stop_of(-1, 2)], [stop_of(1, 1)], [GAP, stop_of(3, 9)], [GAP, stop_of(4, 9)]]:
            twice = bench + [bench[-1]]
            self.assertEqual(field_of(twice, BOX), field_of(bench, BOX))
            again = bench + [("gap", (5, 1)), ("gap", (-5, 1)), bench[-1], bench[-1]]
            self.assertEqual(field_of(again, BOX), field_of(bench, BOX))

    def test_stops_behind_one_that_lets_nothing_by(self):
        shut = stop_of(90, 91)
        self.same([shut, GAP, stop_of(-1, 1)], BOX, [])
        self.same([GAP, stop_of(-1, 1), shut, stop_of(-1, 1), stop_of(1, 1)], BOX, [])

    def test_a_box_far_off_and_long_fractions(self):
        far = 10 ** 40
        box = (told(far), told(far + 1), told(Fraction(1, far)), told(Fraction(2, far)))
        for bench in [
            [], [stop_of(far, far)], [GAP, stop_of(far, far + THIRD)], [("glass", (1, far)), GAP, stop_of(0, far)],
        ]:
            self.same(bench, box, field_by_lines(bench, box))

    def test_against_crossings_of_lines(self):
        kinds = {}
        for bench, box in drawn(81, 400):
            corners = field_by_lines(bench, box)
            kinds[len(corners)] = kinds.get(len(corners), 0) + 1
            self.same(bench, box, corners)
        self.assertTrue(all(kinds.get(count, 0) > 5 for count in [0, 1, 2, 3, 4, 5]), kinds)

    def test_wide_openings_against_crossings_of_lines(self):
        source = random.Random(82)
        many = 0
        for turn in range(60):
            bench = []
            for place in range(source.randint(2, 5)):
                bench += [("gap", told(source.randint(-3, 3))), ("glass", told(Fraction(source.randint(-2, 2), 2)))]
                bench += [stop_of(-source.randint(1, 6), source.randint(1, 6))]
            corners = field_by_lines(bench, BOX)
            many += len(corners) > 5
            self.same(bench, BOX, corners)
        self.assertGreater(many, 5)

    def test_sixty_pieces(self):
        bench = [stop_of(-9, 9), ("gap", (1, 7)), ("glass", (1, 5))] * 20
        corners = field_of(bench, ((-20, 1), (20, 1), (-20, 1), (20, 1)))
        self.in_form(corners)
        self.assertGreater(len(corners), 20)
        for ray in corners:
            self.assertIs(goes_by(bench, ray), True)
            # Each corner of this field lies at a stop's edge, as it reaches to none of the box's.
            self.assertTrue(any(abs(meant(height)) == 9 for number, height in stop_heights(bench, ray)))
        for on, left, right in off_edges(corners):
            self.assertIs(goes_by(bench, on), True)
            self.assertIs(goes_by(bench, left), True)
            self.assertIs(goes_by(bench, right), False)
        self.same([stop_of(-1, 1)] * 60, BOX, [ray_of(-1, -1), ray_of(1, -1), ray_of(1, 1), ray_of(-1, 1)])


class WithinTest(FieldsTest):
    def test_no_corners(self):
        for ray in RAYS:
            self.assertIs(is_within([], ray), False)

    def test_one_corner(self):
        one = ray_of(HALF, -3)
        self.assertIs(is_within([one], one), True)
        for ray in RAYS + [ray_of(HALF + LITTLE, -3), ray_of(HALF, -3 - LITTLE)]:
            self.assertIs(is_within([one], ray), False)

    def test_two_corners(self):
        for start, end in [((0, 1), (2, -1)), ((-1, -1), (1, 1)), ((1, -1), (1, 1)), ((-2, 1), (2, 1))]:
            corners = [ray_of(*start), ray_of(*end)]
            for part in [0, LITTLE, THIRD, HALF, 1 - LITTLE, 1]:
                on = between(corners[0], corners[1], part)
                self.assertIs(is_within(corners, on), True)
                self.assertIs(is_within(corners, ray_of(meant(on[0]) + LITTLE * 3, meant(on[1]) + LITTLE * 5)), False)
                self.assertIs(is_within(corners, ray_of(meant(on[0]) - LITTLE * 3, meant(on[1]) - LITTLE * 5)), False)
            for part in [-LITTLE, 1 + LITTLE, -1, 2]:
                self.assertIs(is_within(corners, between(corners[0], corners[1], part)), False)

    def test_three_and_more(self):
        for corners in [
            [ray_of(1, 1), ray_of(2, 0), ray_of(2, 1)], WHOLE,
            [ray_of(-2, 0), ray_of(-1, -1), ray_of(2, -1), ray_of(2, 0), ray_of(1, 1), ray_of(-2, 1)],
        ]:
            middle = ray_of(*[sum(meant(ray[part]) for ray in corners) / len(corners) for part in [0, 1]])
            self.assertIs(is_within(corners, middle), True)
            for corner in corners:
                self.assertIs(is_within(corners, corner), True)
                self.assertIs(is_within(corners, between(middle, corner, 1 - LITTLE)), True)
                self.assertIs(is_within(corners, between(middle, corner, 1 + LITTLE)), False)
            for on, left, right in off_edges(corners):
                self.assertIs(is_within(corners, on), True)
                self.assertIs(is_within(corners, left), True)
                self.assertIs(is_within(corners, right), False)
            for number, end in enumerate(corners):
                for part in [-LITTLE, 1 + LITTLE, -3, 4]:
                    self.assertIs(is_within(corners, between(corners[number - 1], end, part)), False)

    def test_against_goes_by(self):
        counts = {True: 0, False: 0}
        for bench, box in drawn(83, 200):
            corners = field_of(bench, box)
            low, high, first, last = [meant(part) for part in box]
            for across in range(-1, 8):
                for up in range(-1, 8):
                    ray = ray_of(low + (high - low) * Fraction(across, 6), first + (last - first) * Fraction(up, 6))
                    asked = is_in_box(box, ray) and goes_by(bench, ray)
                    counts[asked] += 1
                    self.assertIs(is_within(corners, ray), asked, (bench, box, ray))
        self.assertTrue(min(counts.values()) > 1000, counts)

    def test_a_little_off_the_edges_of_a_field(self):
        fields = 0
        for bench, box in drawn(84, 200):
            corners = field_of(bench, box)
            for ray in corners:
                self.assertTrue(is_in_box(box, ray) and goes_by(bench, ray))
                self.assertIs(is_within(corners, ray), True)
            if len(corners) > 2:
                fields += 1
                for on, left, right in off_edges(corners):
                    for ray in [on, left, right]:
                        asked = is_in_box(box, ray) and goes_by(bench, ray)
                        self.assertIs(asked, ray != right)
                        self.assertIs(is_within(corners, ray), asked)
        self.assertGreater(fields, 40)


class SizeTest(FieldsTest):
    def test_fewer_than_three_corners(self):
        self.assertEqual(size_of([]), (0, 1))
        for ray in RAYS[::7]:
            self.assertEqual(size_of([ray]), (0, 1))
            for other in RAYS[::9]:
                self.assertEqual(size_of([ray, other]), (0, 1))

    def test_written_out(self):
        self.assertEqual(size_of(WHOLE), (8, 1))
        self.assertEqual(size_of([ray_of(1, 1), ray_of(2, 0), ray_of(2, 1)]), (1, 2))
        self.assertEqual(size_of([ray_of(0, 0), ray_of(THIRD, 0), ray_of(0, Fraction(1, 5))]), (1, 30))
        self.assertEqual(size_of(field_of([GAP, stop_of(-9, 2)], BOX)), (15, 2))
        self.assertEqual(size_of([ray_of(1, 1), ray_of(4, 1), ray_of(4, 3), ray_of(1, 3)]), (6, 1))

    def test_boxes(self):
        source = random.Random(85)
        for turn in range(60):
            box = some_box(source)
            low, high, first, last = [meant(part) for part in box]
            self.assertEqual(size_of(field_of([], box)), told((high - low) * (last - first)))

    def test_fields_cut_in_two_by_the_box(self):
        for bench, box in drawn(86, 150):
            low, high, first, last = box
            whole = meant(size_of(field_of(bench, box)))
            self.assertGreaterEqual(whole, 0)
            for part in [HALF, Fraction(1, 7), Fraction(0)]:
                amid = told(meant(low) + part * (meant(high) - meant(low)))
                halves = [(low, amid, first, last), (amid, high, first, last)]
                self.assertEqual(sum(meant(size_of(field_of(bench, half))) for half in halves), whole)
                amid = told(meant(first) + part * (meant(last) - meant(first)))
                halves = [(low, high, first, amid), (low, high, amid, last)]
                self.assertEqual(sum(meant(size_of(field_of(bench, half))) for half in halves), whole)

    def test_fields_cut_in_two_by_a_stop(self):
        cut = 0
        for bench, box in drawn(87, 150):
            whole = meant(size_of(field_of(bench, box)))
            for height in [Fraction(0), HALF, Fraction(-3)]:
                far = 10 ** 9
                below = meant(size_of(field_of(bench + [stop_of(-far, height)], box)))
                above = meant(size_of(field_of(bench + [stop_of(height, far)], box)))
                cut += below > 0 and above > 0
                self.assertEqual(below + above, whole)
        self.assertGreater(cut, 20)

    def test_a_turn_keeps_the_size(self):
        # The field as it leaves the bench is as great: a table has a d - b c = 1.
        for bench, box in drawn(88, 80):
            corners = field_of(bench, box)
            behind = [walked(bench, ray)[0][-1] for ray in corners]
            self.assertEqual(size_of(behind), size_of(corners))


class RefusedTest(unittest.TestCase):
    def test_what_is_no_box(self):
        for thing in no_boxes():
            for bench in [[], [GAP, stop_of(0, 1)], [stop_of(90, 91)]]:
                with self.assertRaises(NoBox, msg=repr(thing)):
                    field_of(bench, thing)

    def test_ends_alike_make_a_box(self):
        for box in [((1, 1), (1, 1), (0, 1), (2, 1)), ((0, 1), (2, 1), (1, 1), (1, 1)), ((1, 1),) * 4]:
            self.assertTrue(field_of([], box))

    def test_a_bench_that_is_none_ahead_of_all_else(self):
        for box in [BOX, None, (1, 2), ((1, 1), (0, 1), (0, 1), (1, 1))]:
            refuses_no_benches(self, lambda bench: field_of(bench, box))


class NothingHangsTest(unittest.TestCase):
    def test_the_told_list_may_be_changed(self):
        for bench in [[], [GAP, stop_of(-1, 1)], [stop_of(90, 91)]]:
            first = field_of(bench, BOX)
            kept = copy.deepcopy(first)
            first.append(None)
            first[0] = None
            self.assertEqual(field_of(bench, BOX), kept)
            self.assertIsNot(field_of(bench, BOX), field_of(bench, BOX))

    def test_what_was_told_stays_when_the_bench_is_changed(self):
        bench = [GAP, stop_of(-1, 1)]
        corners = field_of(bench, BOX)
        kept = copy.deepcopy(corners)
        bench.append(stop_of(90, 91))
        self.assertEqual(corners, kept)
        self.assertEqual(field_of(bench, BOX), [])

    def test_what_is_handed_in_stays_as_it_is(self):
        benches = some_benches(89, 30, 10) + [[GAP, None], [["gap", [1, 1]]], [GAP] * 61]
        boxes = [BOX] + [box for box in no_boxes() if isinstance(box, (list, dict, tuple))][:40]
        before = copy.deepcopy((benches, boxes))
        for bench in benches:
            for box in boxes:
                try:
                    corners = field_of(bench, box)
                except (NoBench, NoBox):
                    continue
                kept = list(corners)
                for ray in RAYS[::13]:
                    is_within(corners, ray)
                size_of(corners)
                self.assertEqual(corners, kept)
        self.assertEqual((benches, boxes), before)

    def test_answers_stay_the_same_behind_a_refusal(self):
        bench = [GAP, stop_of(-1, 1)]
        kept = field_of(bench, BOX)
        for wrong in [None, (), ((1, 1), (0, 1), (0, 1), (0, 1))]:
            with self.assertRaises(NoBox):
                field_of(bench, wrong)
            self.assertEqual(field_of(bench, BOX), kept)


if __name__ == "__main__":
    unittest.main()

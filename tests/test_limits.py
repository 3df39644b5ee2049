"""The limits of a bench, against rays walked piece by piece through the bench without its stops."""

import copy
import unittest

from grindbench.errors import NoBench
from grindbench.limits import limits_of
from grindbench.ratios import is_ratio

from samples import RAYS, meant, refuses_no_benches, some_benches, stop_heights, told

GAP = ("gap", (1, 1))
STOP = ("stop", (-1, 1), (1, 1))


class LimitsTest(unittest.TestCase):
    def test_no_pieces_and_no_stops(self):
        self.assertEqual(limits_of([]), [])
        for bench in some_benches(71, 40, 10, ("gap", "glass")):
            self.assertEqual(limits_of(bench), [])
        self.assertEqual(limits_of([GAP, ("glass", (1, 2))] * 30), [])

    def test_written_out(self):
        bench = [STOP, ("gap", (3, 1)), ("stop", (0, 1), (2, 1)), ("glass", (1, 2)), GAP, ("stop", (-5, 2), (7, 3))]
        self.assertEqual(limits_of(bench), [
            (0, (1, 1), (0, 1), (-1, 1), (1, 1)),
            (2, (1, 1), (3, 1), (0, 1), (2, 1)),
            (5, (1, 2), (5, 2), (-5, 2), (7, 3)),
        ])

    def test_stops_first_amid_and_last(self):
        self.assertEqual(limits_of([STOP]), [(0, (1, 1), (0, 1), (-1, 1), (1, 1))])
        self.assertEqual(limits_of([STOP, GAP, GAP]), [(0, (1, 1), (0, 1), (-1, 1), (1, 1))])
        self.assertEqual(limits_of([GAP, STOP, GAP]), [(1, (1, 1), (1, 1), (-1, 1), (1, 1))])
        self.assertEqual(limits_of([GAP, GAP, STOP]), [(2, (1, 1), (2, 1), (-1, 1), (1, 1))])

    def test_stops_one_behind_the_other(self):
        other = ("stop", (3, 1), (3, 1))
        self.assertEqual(limits_of([GAP, STOP, other, STOP, STOP]), [
            (1, (1, 1), (1, 1), (-1, 1), (1, 1)), (2, (1, 1), (1, 1), (3, 1), (3, 1)),
            (3, (1, 1), (1, 1), (-1, 1), (1, 1)), (4, (1, 1), (1, 1), (-1, 1), (1, 1)),
        ])

    def test_height_alone_and_slant_alone(self):
        to_focus = [("glass", (1, 2)), ("gap", (2, 1)), STOP]
        self.assertEqual(limits_of(to_focus), [(2, (0, 1), (2, 1), (-1, 1), (1, 1))])
        self.assertEqual(limits_of([GAP, ("gap", (-1, 1)), STOP]), [(2, (1, 1), (0, 1), (-1, 1), (1, 1))])

    def follows(self, bench):
        limits = limits_of(bench)
        self.assertIs(type(limits), list)
        numbers = [number for number, piece in enumerate(bench) if piece[0] == "stop"]
        self.assertEqual([limit[0] for limit in limits], numbers)
        for limit in limits:
            self.assertIs(type(limit), tuple)
            self.assertEqual(len(limit), 5)
            self.assertEqual(limit[3:], bench[limit[0]][1:])
            self.assertTrue(all(is_ratio(part) for part in limit[1:]))
        for ray in RAYS[::11]:
            asked = [told(meant(a) * meant(ray[0]) + meant(b) * meant(ray[1])) for number, a, b, low, high in limits]
            self.assertEqual(asked, [height for number, height in stop_heights(bench, ray)])
        return len(limits)

    def test_against_rays_walked_piece_by_piece(self):
        stops = 0
        for bench in some_benches(72, 120, 12):
            stops += self.follows(bench)
        self.assertGreater(stops, 100)

    def test_sixty_pieces(self):
        self.assertEqual(self.follows([STOP] * 60), 60)
        self.assertEqual(self.follows([GAP, ("glass", (1, 3)), STOP] * 20), 20)
        self.assertEqual(self.follows([GAP] * 59 + [STOP]), 1)


class RefusedTest(unittest.TestCase):
    def test_what_is_no_bench(self):
        refuses_no_benches(self, limits_of)


class NothingHangsTest(unittest.TestCase):
    def test_a_new_list_each_time(self):
        bench = [GAP, STOP, GAP, STOP]
        first = limits_of(bench)
        kept = copy.deepcopy(first)
        first[0] = None
        first.append(None)
        self.assertEqual(limits_of(bench), kept)
        self.assertIsNot(limits_of(bench), limits_of(bench))
        self.assertIsNot(limits_of([]), limits_of([]))
        self.assertEqual(bench, [GAP, STOP, GAP, STOP])

    def test_what_was_told_stays_when_the_bench_is_changed(self):
        bench = [GAP, STOP]
        told_limits = limits_of(bench)
        kept = copy.deepcopy(told_limits)
        bench[0] = STOP
        bench.append(STOP)
        self.assertEqual(told_limits, kept)

    def test_what_is_handed_in_stays_as_it_is(self):
        benches = some_benches(73, 30, 10) + [[GAP, None], [["gap", [1, 1]]], [GAP] * 61]
        before = copy.deepcopy(benches)
        for bench in benches:
            try:
                limits_of(bench)
            except NoBench:
                pass
        self.assertEqual(benches, before)


if __name__ == "__main__":
    unittest.main()

"""Walks of rays through a bench, piece by piece."""

import copy
import unittest

from grindbench.errors import NoBench
from grindbench.pieces import piece_of
from grindbench.walks import goes_by, ray_behind, walk_of

from samples import RATIOS, RAYS, meant, no_lists, no_pieces, some_benches, told, walked

GAP = ("gap", (1, 1))
RAY = ((1, 1), (1, 2))


class WalksTest(unittest.TestCase):
    def same(self, bench, ray, rays, at):
        walk = walk_of(bench, ray)
        self.assertIs(type(walk), tuple)
        self.assertEqual(len(walk), 2)
        self.assertIs(type(walk[0]), list)
        self.assertEqual(walk[0], rays)
        self.assertEqual(walk[1], at)
        self.assertIs(goes_by(bench, ray), at is None)
        self.assertEqual(ray_behind(bench, ray), rays[-1] if at is None else None)


class WalkedTest(WalksTest):
    def test_no_pieces(self):
        for ray in RAYS:
            self.same([], ray, [ray], None)

    def test_written_out(self):
        bench = [("gap", (3, 2)), ("glass", (-1, 4)), ("stop", (-1, 1), (1, 1)), ("gap", (-2, 1))]
        ray = ((0, 1), (1, 3))
        second = ((1, 2), (1, 3))
        third = ((1, 2), (11, 24))
        self.same(bench, ray, [ray, second, third, third, ((-5, 12), (11, 24))], None)
        self.same(bench, ((5, 1), (0, 1)), [((5, 1), (0, 1)), ((5, 1), (0, 1)), ((5, 1), (5, 4))], 2)

    def test_one_gap_or_glass_of_each_kind(self):
        for one in RATIOS:
            for ray in RAYS:
                along = told(meant(ray[0]) + meant(one) * meant(ray[1]))
                self.same([("gap", one)], ray, [ray, (along, ray[1])], None)
                bent = told(meant(ray[1]) - meant(one) * meant(ray[0]))
                self.same([("glass", one)], ray, [ray, (ray[0], bent)], None)

    def test_lengths_and_strengths_of_0(self):
        for ray in RAYS:
            self.same([("gap", (0, 1)), ("glass", (0, 1))], ray, [ray, ray, ray], None)

    def test_a_step_back_undoes_a_gap(self):
        for one in RATIOS:
            back = (-one[0], one[1])
            for ray in RAYS:
                self.assertEqual(ray_behind([("gap", one), ("gap", back)], ray), ray)
                self.assertEqual(ray_behind([("glass", one), ("glass", back)], ray), ray)

    def test_stopped_at_the_first_a_middle_and_the_last_piece(self):
        shut = ("stop", (90, 1), (91, 1))
        for length in [1, 2, 5, 60]:
            for number in sorted({0, length // 2, length - 1}):
                bench = [GAP] * length
                bench[number] = shut
                ray = ((0, 1), (1, 1))
                self.same(bench, ray, [((place, 1), (1, 1)) for place in range(number + 1)], number)

    def test_the_first_of_two_stops_stops(self):
        shut = ("stop", (90, 1), (91, 1))
        self.same([GAP, shut, shut], RAY, [RAY, ((3, 2), (1, 2))], 1)
        wide = ("stop", (-90, 1), (91, 1))
        self.same([wide, shut, GAP], RAY, [RAY, RAY], 1)

    def test_at_a_stops_edges(self):
        little = meant((1, 10 ** 40))
        for low, high in [((-1, 2), (1, 3)), ((0, 1), (0, 1)), ((-5, 1), (-4, 1)), ((7, 3), (22, 7))]:
            bench = [("stop", low, high)]
            for height in [low, high]:
                self.same(bench, (height, (3, 1)), [(height, (3, 1))] * 2, None)
            for height in [told(meant(low) - little), told(meant(high) + little)]:
                self.same(bench, (height, (3, 1)), [(height, (3, 1))], 0)

    def test_the_height_at_the_stop_counts(self):
        stop = ("stop", (0, 1), (1, 1))
        self.assertIs(goes_by([stop, ("gap", (9, 1))], ((1, 1), (1, 1))), True)
        self.assertIs(goes_by([("gap", (9, 1)), stop], ((1, 1), (1, 1))), False)
        self.assertIs(goes_by([("gap", (9, 1)), stop], ((-8, 1), (1, 1))), True)

    def test_many_benches(self):
        stopped = 0
        for bench in some_benches(3, 150, 12) + some_benches(4, 100, 12, ("gap", "glass")):
            for ray in RAYS[::9]:
                rays, at = walked(bench, ray)
                stopped += at is not None
                self.same(bench, ray, rays, at)
        self.assertGreater(stopped, 100)

    def test_sixty_pieces(self):
        for bench in [[GAP, ("glass", (1, 3))] * 30, [GAP] * 60, [("stop", (0, 1), (1, 1))] * 60]:
            rays, at = walked(bench, RAY)
            self.same(bench, RAY, rays, at)
            self.assertEqual(len(rays), 61)

    def test_each_ray_is_what_the_piece_object_makes(self):
        for bench in some_benches(5, 60, 8):
            for ray in RAYS[::17]:
                rays, at = walk_of(bench, ray)
                for number in range(len(rays) - 1):
                    piece = piece_of(bench[number])
                    self.assertIs(piece.lets(rays[number]), True)
                    self.assertEqual(piece.bent(rays[number]), rays[number + 1])
                if at is None:
                    self.assertEqual(len(rays), len(bench) + 1)
                else:
                    self.assertEqual(len(rays), at + 1)
                    self.assertIs(piece_of(bench[at]).lets(rays[at]), False)


class RefusedTest(unittest.TestCase):
    def refused(self, thing, at):
        for asked in [walk_of, goes_by, ray_behind]:
            with self.assertRaises(NoBench, msg=(asked, thing)) as taken:
                asked(thing, RAY)
            self.assertEqual(taken.exception.at, at)
            # The bench is looked at ahead of all else, the ray among it.
            with self.assertRaises(NoBench):
                asked(thing, None)

    def test_what_is_no_list_or_too_long(self):
        for thing in no_lists() + [[GAP] * 61, [GAP] * 60 + [None], [None] * 61]:
            self.refused(thing, None)

    def test_what_is_no_piece(self):
        for thing in no_pieces():
            self.refused([thing, GAP, GAP], 0)
            self.refused([GAP, thing, GAP], 1)
            self.refused([GAP, GAP, thing], 2)
            self.refused([GAP, thing, thing], 1)

    def test_also_behind_a_piece_that_would_stop_the_ray(self):
        self.refused([("stop", (90, 1), (91, 1)), None], 1)


class NothingHangsTest(unittest.TestCase):
    def test_the_told_list_may_be_changed(self):
        bench = [GAP, ("stop", (0, 1), (9, 1)), ("glass", (1, 2))]
        before = copy.deepcopy(bench)
        first = walk_of(bench, RAY)
        kept = copy.deepcopy(first)
        first[0].append(None)
        first[0][0] = None
        self.assertEqual(bench, before)
        self.assertEqual(walk_of(bench, RAY), kept)
        self.assertIsNot(walk_of(bench, RAY)[0], walk_of(bench, RAY)[0])

    def test_what_was_told_stays_when_the_bench_is_changed(self):
        bench = [GAP, GAP]
        told_walk = walk_of(bench, RAY)
        kept = copy.deepcopy(told_walk)
        bench.append(GAP)
        bench[0] = ("glass", (1, 1))
        self.assertEqual(told_walk, kept)

    def test_what_is_handed_in_stays_as_it_is(self):
        benches = some_benches(6, 30, 10) + [[GAP, None], [["gap", [1, 1]]], [GAP] * 61]
        before = copy.deepcopy(benches)
        for bench in benches:
            for asked in [walk_of, goes_by, ray_behind]:
                try:
                    asked(bench, RAY)
                except NoBench:
                    pass
        self.assertEqual(benches, before)


if __name__ == "__main__":
    unittest.main()

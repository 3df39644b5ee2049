"""Benches and tables turned about, and light sent back."""

import copy
import unittest

from grindbench.errors import NoBench, NoTable
from grindbench.tables import bent_by, is_table, table_of
from grindbench.turning import turned_bench, turned_table
from grindbench.walks import goes_by, ray_behind, walk_of

from samples import RAYS, meant, no_lists, no_pieces, no_tables, some_benches, some_tables, told

GAP = ("gap", (1, 1))


def sent_back(ray):
    return (ray[0], told(-meant(ray[1])))


class TurnedBenchTest(unittest.TestCase):
    def test_none_one_and_many_pieces(self):
        glass = ("glass", (1, 2))
        stop = ("stop", (-1, 1), (2, 1))
        self.assertEqual(turned_bench([]), [])
        self.assertEqual(turned_bench([stop]), [stop])
        self.assertEqual(turned_bench([GAP, glass, stop]), [stop, glass, GAP])
        self.assertEqual(turned_bench([GAP, glass] * 30), [glass, GAP] * 30)
        for bench in some_benches(21, 100, 60):
            turned = turned_bench(bench)
            self.assertIs(type(turned), list)
            self.assertEqual(turned, bench[::-1])

    def test_turned_twice(self):
        for bench in some_benches(22, 60, 20):
            self.assertEqual(turned_bench(turned_bench(bench)), bench)

    def test_a_new_list_each_time(self):
        for bench in [[], [GAP], [GAP, GAP], [GAP, ("glass", (1, 2))]]:
            before = copy.deepcopy(bench)
            turned = turned_bench(bench)
            kept = list(turned)
            self.assertIsNot(turned, bench)
            self.assertIsNot(turned, turned_bench(bench))
            turned.append(None)
            turned[0] = None
            self.assertEqual(bench, before)
            self.assertEqual(turned_bench(bench), kept)

    def test_what_was_told_stays_when_the_bench_is_changed(self):
        bench = [GAP, ("glass", (1, 2))]
        turned = turned_bench(bench)
        bench.clear()
        self.assertEqual(turned, [("glass", (1, 2)), GAP])

    def test_what_is_no_bench(self):
        for thing in no_lists() + [[GAP] * 61, [None] * 61]:
            with self.assertRaises(NoBench, msg=repr(thing)) as taken:
                turned_bench(thing)
            self.assertIsNone(taken.exception.at)
        for thing in no_pieces():
            for number in range(3):
                bench = [GAP] * 3
                bench[number] = thing
                with self.assertRaises(NoBench, msg=repr(thing)) as taken:
                    turned_bench(bench)
                self.assertEqual(taken.exception.at, number)


class TurnedTableTest(unittest.TestCase):
    def test_written_out(self):
        self.assertEqual(turned_table(((2, 1), (3, 1), (5, 1), (8, 1))), ((8, 1), (3, 1), (5, 1), (2, 1)))

    def test_against_the_table_of_the_turned_bench(self):
        for bench in some_benches(23, 200, 14):
            turned = turned_table(table_of(bench))
            self.assertIs(is_table(turned), True)
            self.assertEqual(turned, table_of(turned_bench(bench)))

    def test_turned_twice(self):
        for table in some_tables(24, 40):
            self.assertIs(is_table(turned_table(table)), True)
            self.assertEqual(turned_table(turned_table(table)), table)

    def test_what_is_no_table(self):
        for thing in no_tables():
            with self.assertRaises(NoTable, msg=repr(thing)):
                turned_table(thing)


class SentBackTest(unittest.TestCase):
    def test_a_ray_that_goes_by_comes_back_as_it_went_in(self):
        gone_by = 0
        for bench in some_benches(25, 200, 6) + some_benches(26, 60, 15, ("gap", "glass")):
            turned = turned_bench(bench)
            for ray in RAYS[::7]:
                behind = ray_behind(bench, ray)
                if behind is not None:
                    gone_by += any(piece[0] == "stop" for piece in bench)
                    self.assertIs(goes_by(turned, sent_back(behind)), True)
                    self.assertEqual(ray_behind(turned, sent_back(behind)), sent_back(ray))
                    back = walk_of(turned, sent_back(behind))[0]
                    self.assertEqual([sent_back(one) for one in back[::-1]], walk_of(bench, ray)[0])
        self.assertGreater(gone_by, 100)

    def test_a_ray_that_is_stopped_is_stopped_on_its_way_back(self):
        bench = [GAP, ("stop", (0, 1), (1, 1)), GAP]
        ray = ((1, 1), (1, 1))
        self.assertIs(goes_by(bench, ray), False)
        behind = bent_by(table_of(bench), ray)
        self.assertIs(goes_by(turned_bench(bench), sent_back(behind)), False)

    def test_by_tables(self):
        for table in some_tables(27, 60):
            for ray in RAYS[::5]:
                behind = bent_by(table, ray)
                self.assertEqual(bent_by(turned_table(table), sent_back(behind)), sent_back(ray))


if __name__ == "__main__":
    unittest.main()

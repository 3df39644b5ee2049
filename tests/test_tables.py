"""Tables: what they are, a bench's one, one behind the other, undone and as powers."""

import copy
import unittest

from grindbench.errors import BenchError, NoBench, NoTable
from grindbench.tables import bent_by, is_table, power_of, put_behind, table_of, undoing_of
from grindbench.walks import ray_behind

from samples import (
    RATIOS, RAYS, meant, no_lists, no_pieces, no_tables, some_benches, some_tables, table_by_walks, told, walked,
    without_stops,
)

GAP = ("gap", (1, 1))
LEAVING = ((1, 1), (0, 1), (0, 1), (1, 1))
TABLES = some_tables(11, 40)


def times(second, first):
    """The product of two tables as squares of numbers, the first one's rays handed to the second."""
    a, b, c, d = [meant(part) for part in second]
    e, f, g, h = [meant(part) for part in first]
    return (told(a * e + b * g), told(a * f + b * h), told(c * e + d * g), told(c * f + d * h))


class IsTableTest(unittest.TestCase):
    def test_of_one_gap_or_glass(self):
        for one in RATIOS:
            self.assertIs(is_table(((1, 1), one, (0, 1), (1, 1))), True)
            self.assertIs(is_table(((1, 1), (0, 1), one, (1, 1))), True)
        self.assertIs(is_table(LEAVING), True)

    def test_of_both(self):
        for table in TABLES:
            self.assertIs(is_table(table), True, table)
        for table in [
            ((2, 1), (3, 1), (1, 1), (2, 1)), ((-1, 1), (0, 1), (0, 1), (-1, 1)), ((0, 1), (1, 1), (-1, 1), (0, 1)),
            ((1, 2), (0, 1), (0, 1), (2, 1)), ((-2, 3), (5, 7), (0, 1), (-3, 2)), ((0, 1), (-5, 3), (3, 5), (9, 4)),
            ((10 ** 40, 1), (1, 1), (-1, 1), (0, 1)), ((1, 10 ** 40), (0, 1), (0, 1), (10 ** 40, 1)),
        ]:
            self.assertIs(is_table(table), True, table)

    def test_what_is_none(self):
        for thing in no_tables():
            self.assertIs(is_table(thing), False, repr(thing))

    def test_any_other_sum_is_none(self):
        for a, b, c, d in TABLES:
            for more in [(1, 10 ** 40), (-1, 1), (-2, 1), (1, 3)]:
                if a != (0, 1):
                    self.assertIs(is_table((a, b, c, told(meant(d) + meant(more)))), False)
                if b != (0, 1):
                    self.assertIs(is_table((a, b, told(meant(c) + meant(more)), d)), False)
            # Light the other way about has a d - b c = -1.
            self.assertIs(is_table((a, b, told(-meant(c)), told(-meant(d)))), False)


class TableOfTest(unittest.TestCase):
    def test_no_pieces(self):
        self.assertEqual(table_of([]), LEAVING)

    def test_one_piece(self):
        for one in RATIOS:
            self.assertEqual(table_of([("gap", one)]), ((1, 1), one, (0, 1), (1, 1)))
            self.assertEqual(table_of([("glass", one)]), ((1, 1), (0, 1), told(-meant(one)), (1, 1)))
            self.assertEqual(table_of([("stop", one, one)]), LEAVING)

    def test_written_out(self):
        self.assertEqual(table_of([("gap", (2, 1)), ("glass", (1, 3))]), ((1, 1), (2, 1), (-1, 3), (1, 3)))
        self.assertEqual(table_of([("glass", (1, 3)), ("gap", (2, 1))]), ((1, 3), (2, 1), (-1, 3), (1, 1)))

    def test_against_the_rays_bent_piece_by_piece(self):
        for bench in some_benches(12, 200, 14):
            table = table_of(bench)
            self.assertIs(type(table), tuple)
            self.assertIs(is_table(table), True)
            self.assertEqual(table, table_by_walks(bench))

    def test_no_stop_ever_stops(self):
        shut = ("stop", (1000, 1), (1000, 1))
        for bench in some_benches(13, 40, 8):
            asked = table_of(without_stops(bench))
            self.assertEqual(table_of(bench), asked)
            for place in range(len(bench) + 1):
                self.assertEqual(table_of(bench[:place] + [shut] + bench[place:]), asked)

    def test_the_table_does_what_walking_does(self):
        for bench in some_benches(14, 80, 10):
            table = table_of(bench)
            for ray in RAYS[::11]:
                behind = ray_behind(bench, ray)
                if behind is not None:
                    self.assertEqual(bent_by(table, ray), behind)
                self.assertEqual(bent_by(table, ray), walked(without_stops(bench), ray)[0][-1])

    def test_sixty_pieces(self):
        for bench in [
            [GAP] * 60, [GAP, ("glass", (1, 3))] * 30, [("glass", (-1, 7)), ("stop", (0, 1), (1, 1)), GAP] * 20,
            [("stop", (0, 1), (0, 1))] * 60,
        ]:
            self.assertEqual(table_of(bench), table_by_walks(bench))
        self.assertEqual(table_of([GAP] * 60), ((1, 1), (60, 1), (0, 1), (1, 1)))

    def refused(self, thing, at):
        with self.assertRaises(NoBench, msg=repr(thing)) as taken:
            table_of(thing)
        self.assertEqual(taken.exception.at, at)

    def test_what_is_no_bench(self):
        for thing in no_lists() + [[GAP] * 61, [GAP] * 60 + [None], LEAVING]:
            self.refused(thing, None)
        for thing in no_pieces():
            self.refused([thing, GAP, GAP], 0)
            self.refused([GAP, thing, GAP], 1)
            self.refused([GAP, GAP, thing], 2)
        self.refused([GAP] * 59 + [None], 59)


class ReckonedTest(unittest.TestCase):
    def test_bent(self):
        self.assertEqual(bent_by(((2, 1), (3, 1), (1, 1), (2, 1)), ((1, 2), (1, 3))), ((2, 1), (7, 6)))
        for table in TABLES:
            a, b, c, d = [meant(part) for part in table]
            for ray in RAYS[::3]:
                y, u = [meant(part) for part in ray]
                self.assertEqual(bent_by(table, ray), (told(a * y + b * u), told(c * y + d * u)))

    def test_leaving(self):
        for ray in RAYS:
            self.assertEqual(bent_by(LEAVING, ray), ray)
        for table in TABLES:
            self.assertEqual(put_behind(table, LEAVING), table)
            self.assertEqual(put_behind(LEAVING, table), table)

    def test_one_behind_the_other(self):
        for first in TABLES:
            for second in TABLES[::4]:
                both = put_behind(first, second)
                self.assertIs(is_table(both), True)
                self.assertEqual(both, times(second, first))
                for ray in RAYS[::37]:
                    self.assertEqual(bent_by(both, ray), bent_by(second, bent_by(first, ray)))

    def test_benches_one_behind_the_other(self):
        benches = some_benches(15, 20, 9)
        for first in benches:
            for second in benches:
                self.assertEqual(put_behind(table_of(first), table_of(second)), table_of(first + second))

    def test_the_first_one_first(self):
        gap = table_of([("gap", (2, 1))])
        glass = table_of([("glass", (1, 3))])
        self.assertEqual(put_behind(gap, glass), ((1, 1), (2, 1), (-1, 3), (1, 3)))
        self.assertEqual(put_behind(glass, gap), ((1, 3), (2, 1), (-1, 3), (1, 1)))

    def test_in_either_grouping(self):
        for first in TABLES[::5]:
            for second in TABLES[::6]:
                for third in TABLES[::7]:
                    self.assertEqual(
                        put_behind(put_behind(first, second), third), put_behind(first, put_behind(second, third)))

    def test_undone(self):
        self.assertEqual(undoing_of(((2, 1), (3, 1), (1, 1), (2, 1))), ((2, 1), (-3, 1), (-1, 1), (2, 1)))
        self.assertEqual(undoing_of(LEAVING), LEAVING)
        for table in TABLES:
            undoing = undoing_of(table)
            self.assertIs(is_table(undoing), True)
            self.assertEqual(put_behind(table, undoing), LEAVING)
            self.assertEqual(put_behind(undoing, table), LEAVING)
            self.assertEqual(undoing_of(undoing), table)
            for ray in RAYS[::13]:
                self.assertEqual(bent_by(undoing, bent_by(table, ray)), ray)

    def test_powers_by_some_numbers(self):
        for table in TABLES:
            self.assertEqual(power_of(table, 0), LEAVING)
            self.assertEqual(power_of(table, 1), table)
            self.assertEqual(power_of(table, -1), undoing_of(table))
            self.assertEqual(power_of(table, 2), put_behind(table, table))

    def test_powers_from_minus_60_to_60(self):
        for table in TABLES[::6] + [((2, 1), (3, 1), (1, 1), (2, 1)), ((0, 1), (1, 1), (-1, 1), (0, 1))]:
            above = LEAVING
            below = LEAVING
            undoing = undoing_of(table)
            for n in range(61):
                self.assertEqual(power_of(table, n), above, n)
                self.assertEqual(power_of(table, -n), below, n)
                above = times(table, above)
                below = times(undoing, below)

    def test_powers_of_a_gap_and_a_glass(self):
        for one in RATIOS:
            for n in [-60, -7, -1, 0, 1, 13, 60]:
                many = told(meant(one) * n)
                self.assertEqual(power_of(((1, 1), one, (0, 1), (1, 1)), n), ((1, 1), many, (0, 1), (1, 1)))
                self.assertEqual(power_of(((1, 1), (0, 1), one, (1, 1)), n), ((1, 1), (0, 1), many, (1, 1)))

    def test_powers_by_two_numbers_and_by_their_sum(self):
        for table in TABLES[::9]:
            for n in [-60, -30, -17, -1, 0, 1, 5, 29, 30, 60]:
                for more in [-30, -8, 0, 1, 30]:
                    if abs(n + more) <= 60:
                        self.assertEqual(
                            put_behind(power_of(table, n), power_of(table, more)), power_of(table, n + more))


class RefusedTest(unittest.TestCase):
    def refused(self, asked):
        with self.assertRaises(NoTable) as taken:
            asked()
        self.assertIsInstance(taken.exception, BenchError)

    def test_what_is_no_table(self):
        table = ((2, 1), (3, 1), (1, 1), (2, 1))
        for thing in no_tables():
            self.refused(lambda: bent_by(thing, ((1, 1), (0, 1))))
            self.refused(lambda: put_behind(thing, table))
            self.refused(lambda: put_behind(table, thing))
            self.refused(lambda: put_behind(thing, thing))
            self.refused(lambda: undoing_of(thing))
            for n in [0, 1, -1, 2, 60, -60]:
                self.refused(lambda: power_of(thing, n))


class NothingHangsTest(unittest.TestCase):
    def test_what_is_handed_in_stays_as_it_is(self):
        benches = some_benches(16, 20, 8) + [[GAP, None], [["gap", [1, 1]]], [GAP] * 61]
        before = copy.deepcopy(benches)
        for bench in benches:
            try:
                table_of(bench)
            except NoBench:
                pass
        self.assertEqual(benches, before)
        things = [thing for thing in no_tables() if isinstance(thing, (list, dict, set))]
        before = copy.deepcopy(things)
        for thing in things:
            is_table(thing)
            for asked in [undoing_of, lambda one: put_behind(one, LEAVING), lambda one: power_of(one, 2)]:
                with self.assertRaises(NoTable):
                    asked(thing)
        self.assertEqual(things, before)

    def test_a_told_table_does_not_hang_on_the_bench(self):
        bench = [GAP, ("glass", (1, 2))]
        table = table_of(bench)
        bench.append(GAP)
        bench[0] = ("gap", (9, 1))
        self.assertEqual(table, ((1, 1), (1, 1), (-1, 2), (1, 2)))

    def test_answers_stay_the_same_behind_a_refusal(self):
        table = ((2, 1), (3, 1), (1, 1), (2, 1))
        for turn in range(3):
            self.assertEqual(power_of(table, 2), ((7, 1), (12, 1), (4, 1), (7, 1)), turn)
            self.assertEqual(power_of(table, 0), LEAVING, turn)
            with self.assertRaises(NoTable):
                power_of(None, 2)
            with self.assertRaises(NoTable):
                put_behind(table, None)
            with self.assertRaises(NoBench):
                table_of([None])


if __name__ == "__main__":
    unittest.main()

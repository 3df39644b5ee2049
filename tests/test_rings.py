"""Rings: their form, when a table comes round, and how many rounds a ray goes."""

import copy
import unittest
from fractions import Fraction

from grindbench.errors import NoBench, NoTable
from grindbench.ratios import is_ratio
from grindbench.rings import form_of, rounds_gone, rounds_of, told_by
from grindbench.tables import bent_by, power_of, put_behind, table_of, undoing_of

from samples import (
    RATIOS, RAYS, meant, no_tables, refuses_no_benches, some_benches, some_tables, stop_of, table_told, told, walked,
)

GAP = ("gap", (1, 1))
GLASS = ("glass", (1, 1))
RAY = ((1, 1), (0, 1))
LEAVING = table_told(1, 0, 0, 1)
COMING_ROUND = {
    1: [LEAVING],
    2: [table_told(-1, 0, 0, -1)],
    3: [table_told(0, 1, -1, -1), table_told(-1, -1, 1, 0), table_told(-2, 3, -1, 1)],
    4: [
        table_told(0, 1, -1, 0), table_told(0, -1, 1, 0), table_told(0, Fraction(5, 3), Fraction(-3, 5), 0),
        table_told(3, -10, 1, -3),
    ],
    6: [
        table_told(1, 1, -1, 0), table_told(0, 1, -1, 1),
        table_told(Fraction(1, 2), Fraction(-3, 4), 1, Fraction(1, 2)),
    ],
}
NEVER = [
    table_told(1, 1, 0, 1), table_told(1, Fraction(1, 10 ** 40), 0, 1), table_told(1, 0, -1, 1),
    table_told(-1, 1, 0, -1),
    table_told(-1, 0, 1, -1), table_told(2, 0, 0, Fraction(1, 2)), table_told(-2, 0, 0, Fraction(-1, 2)),
    table_told(2, 1, 1, 1), table_told(0, 1, -1, 3), table_told(0, 1, -1, Fraction(1, 2)), table_told(0, 1, -1, -2),
    table_told(0, 1, -1, 2), table_told(0, 1, -1, -3),
    table_told(Fraction(3, 5), Fraction(4, 5), Fraction(-4, 5), Fraction(3, 5)),
    table_told(0, 1, -1, 1 + Fraction(1, 10 ** 40)), table_told(0, 1, -1, Fraction(3, 2)),
    table_told(0, 1, -1, Fraction(-1, 2)),
]


def rounds_walked(bench, ray, most):
    """The rounds of a ray gone one by one, and the number of the round in which it is stopped, or None."""
    for gone in range(most):
        rays, at = walked(bench, ray)
        if at is not None:
            return gone
        ray = rays[-1]
    return most


class FormTest(unittest.TestCase):
    def test_written_out(self):
        self.assertEqual(form_of(table_told(2, 3, 1, 2)), ((1, 1), (0, 1), (-3, 1)))
        self.assertEqual(form_of(LEAVING), ((0, 1), (0, 1), (0, 1)))
        self.assertEqual(form_of(table_told(0, 1, -1, 3)), ((-1, 1), (3, 1), (-1, 1)))
        self.assertEqual(form_of(table_told(5, 3, Fraction(-1, 3), 0)), ((-1, 3), (-5, 1), (-3, 1)))

    def test_of_many_tables(self):
        for table in some_tables(111, 80):
            a, b, c, d = [meant(part) for part in table]
            form = form_of(table)
            self.assertIs(type(form), tuple)
            self.assertEqual(form, (told(c), told(d - a), told(-b)))

    def test_what_a_form_tells(self):
        self.assertEqual(told_by(((1, 1), (2, 1), (3, 1)), ((5, 1), (7, 1))), (25 + 70 + 147, 1))
        self.assertEqual(told_by(((1, 1), (0, 1), (0, 1)), ((1, 2), (9, 1))), (1, 4))
        self.assertEqual(told_by(((0, 1), (1, 1), (0, 1)), ((1, 2), (9, 1))), (9, 2))
        self.assertEqual(told_by(((0, 1), (0, 1), (1, 1)), ((1, 2), (-9, 1))), (81, 1))
        for p, q, r in [(one, other, third) for one in RATIOS[::2] for other in RATIOS[::3] for third in RATIOS[::4]]:
            for ray in RAYS[::13]:
                y, u = meant(ray[0]), meant(ray[1])
                answer = told_by((p, q, r), ray)
                self.assertIs(is_ratio(answer), True)
                self.assertEqual(answer, told(meant(p) * y * y + meant(q) * y * u + meant(r) * u * u))

    def test_it_tells_the_same_of_the_ray_behind(self):
        for table in some_tables(112, 80):
            form = form_of(table)
            for ray in RAYS[::9]:
                kept = told_by(form, ray)
                for turn in range(4):
                    ray = bent_by(table, ray)
                    self.assertEqual(told_by(form, ray), kept)

    def test_it_tells_the_same_of_a_ray_walked_round(self):
        for bench in some_benches(113, 60, 8, ("gap", "glass")):
            form = form_of(table_of(bench))
            for ray in RAYS[::19]:
                self.assertEqual(told_by(form, walked(bench, ray)[0][-1]), told_by(form, ray))


class RoundsOfTest(unittest.TestCase):
    def test_tables_that_come_round(self):
        for rounds, tables in COMING_ROUND.items():
            for table in tables:
                answer = rounds_of(table)
                self.assertIs(type(answer), int)
                self.assertEqual(answer, rounds, table)

    def test_tables_seen_from_elsewhere(self):
        # Whatever stands ahead and is undone behind changes nothing of when a table comes round.
        for rounds, tables in COMING_ROUND.items():
            for table in tables:
                for other in some_tables(114, 20):
                    turned = put_behind(put_behind(undoing_of(other), table), other)
                    self.assertEqual(rounds_of(turned), rounds)
        for table in NEVER:
            for other in some_tables(115, 10):
                self.assertIsNone(rounds_of(put_behind(put_behind(undoing_of(other), table), other)))

    def test_tables_that_never_come_round(self):
        for table in NEVER:
            self.assertIsNone(rounds_of(table), table)

    def test_benches(self):
        self.assertEqual(rounds_of(table_of([])), 1)
        self.assertEqual(rounds_of(table_of([GAP, ("gap", (-1, 1))])), 1)
        self.assertEqual(rounds_of(table_of([GAP, GLASS] * 3)), 2)
        self.assertEqual(rounds_of(table_of([GAP, GLASS] * 2)), 3)
        self.assertEqual(rounds_of(table_of([GAP, ("glass", (2, 1))])), 4)
        self.assertEqual(rounds_of(table_of([GAP, GLASS])), 6)
        self.assertIsNone(rounds_of(table_of([GAP])))
        self.assertIsNone(rounds_of(table_of([GAP, ("glass", (1, 2))])))

    def test_against_powers(self):
        for table in some_tables(116, 120) + NEVER + [table for tables in COMING_ROUND.values() for table in tables]:
            power = table
            found = None
            for n in range(1, 25):
                if power == LEAVING:
                    found = n
                    break
                power = put_behind(power, table)
            self.assertEqual(rounds_of(table), found)
            if found is not None:
                self.assertEqual(power_of(table, found), LEAVING)
                self.assertEqual(power_of(table, 60), LEAVING)


class RoundsGoneTest(unittest.TestCase):
    def same(self, bench, ray, most, rounds):
        answer = rounds_gone(bench, ray, most)
        self.assertIs(type(answer), int)
        self.assertEqual(answer, rounds, (bench, ray, most))

    def test_stopped_in_the_first_round(self):
        for most in [0, 1, 2, 60]:
            self.same([stop_of(2, 3)], RAY, most, 0)
            self.same([GAP, stop_of(2, 3), GAP], RAY, most, 0)

    def test_stopped_in_a_later_one(self):
        ray = ((0, 1), (1, 1))
        for end in [0, 1, 2, 30, 59, 60, 61]:
            for most in [0, 1, 2, 30, 59, 60]:
                self.same([GAP, stop_of(0, end)], ray, most, min(end, most))
                self.same([stop_of(0, end), GAP], ray, most, min(end + 1, most))

    def test_stopped_amid_a_round(self):
        ray = ((0, 1), (1, 1))
        bench = [GAP, stop_of(0, 4), GAP, stop_of(0, 99)]
        self.same(bench, ray, 60, 2)
        self.same(bench, ray, 2, 2)
        self.same(bench, ray, 1, 1)

    def test_never_stopped(self):
        for most in [0, 1, 2, 6, 7, 60]:
            self.same([], RAY, most, most)
            self.same([GAP], RAY, most, most)
            self.same([GAP, GLASS, stop_of(-1, 1)], RAY, most, most)
            self.same([stop_of(1, 1)], RAY, most, most)

    def test_a_bench_without_pieces(self):
        for ray in RAYS[::7]:
            for most in [0, 1, 60]:
                self.same([], ray, most, most)

    def test_many_benches(self):
        counts = {"first": 0, "later": 0, "never": 0}
        for bench in some_benches(117, 200, 6):
            for ray in RAYS[::23]:
                for most in [0, 1, 2, 5]:
                    asked = rounds_walked(bench, ray, most)
                    counts["never" if asked == most else "first" if asked == 0 else "later"] += 1
                    self.same(bench, ray, most, asked)
        self.assertTrue(min(counts.values()) > 20, counts)

    def test_sixty_pieces_sixty_rounds(self):
        bench = [GAP, GLASS, stop_of(-1, 1)] * 20
        self.same(bench, RAY, 60, 60)
        self.same([GAP] * 59 + [stop_of(0, 59 * 40)], ((0, 1), (1, 1)), 60, 40)


class RefusedTest(unittest.TestCase):
    def test_what_is_no_table(self):
        for thing in no_tables():
            for ask in [form_of, rounds_of]:
                with self.assertRaises(NoTable, msg=repr(thing)):
                    ask(thing)

    def test_what_is_no_bench_whatever_the_most_is(self):
        for most in [0, 1, 60, None]:
            refuses_no_benches(self, lambda bench: rounds_gone(bench, RAY, most))
            refuses_no_benches(self, lambda bench: rounds_gone(bench, None, most))
        # Also behind a piece that would stop the ray.
        with self.assertRaises(NoBench):
            rounds_gone([stop_of(90, 91), None], RAY, 1)


class NothingHangsTest(unittest.TestCase):
    def test_what_is_handed_in_stays_as_it_is(self):
        benches = some_benches(118, 30, 10) + [[GAP, None], [["gap", [1, 1]]], [GAP] * 61]
        things = [thing for thing in no_tables() if isinstance(thing, (list, dict, set))]
        before = copy.deepcopy((benches, things))
        for bench in benches:
            try:
                rounds_gone(bench, RAY, 3)
            except NoBench:
                pass
        for thing in things:
            for ask in [form_of, rounds_of]:
                with self.assertRaises(NoTable):
                    ask(thing)
        self.assertEqual((benches, things), before)


if __name__ == "__main__":
    unittest.main()

"""Tables taken apart into the fewest gaps and glasses."""

import copy
import itertools
import unittest
from fractions import Fraction

from grindbench.apart import taken_apart
from grindbench.errors import NoTable
from grindbench.pieces import look_at
from grindbench.tables import table_of

from samples import RATIOS, meant, no_tables, some_benches, some_tables, table_by_walks, table_told

NUMBERS = [(0, 1), (1, 1), (-1, 1), (2, 1), (1, 2), (-1, 3)]


def fewest(table):
    """As few pieces as any bench of gaps and glasses with this table has: which entries each number can leave."""
    a, b, c, d = [meant(part) for part in table]
    if (a, b, c, d) == (1, 0, 0, 1):
        return 0
    if a == d == 1:
        return 1
    if a == 1 or d == 1:
        return 2
    return 4 if b == c == 0 else 3


class ApartTest(unittest.TestCase):
    def right(self, table):
        bench = taken_apart(table)
        self.assertIs(type(bench), list)
        self.assertIsNone(look_at(bench))
        self.assertEqual(table_of(bench), table)
        self.assertEqual(table_by_walks(bench), table)
        for piece in bench:
            self.assertIn(piece[0], ["gap", "glass"])
            self.assertNotEqual(piece[1], (0, 1), bench)
        for one, other in zip(bench, bench[1:]):
            self.assertNotEqual(one[0], other[0], bench)
        self.assertEqual(len(bench), fewest(table), table)
        return bench


class TakenApartTest(ApartTest):
    def test_none(self):
        self.assertEqual(self.right(table_told(1, 0, 0, 1)), [])

    def test_one(self):
        for one in RATIOS:
            if one != (0, 1):
                for bench in [[("gap", one)], [("glass", one)]]:
                    self.assertEqual(self.right(table_of(bench)), bench)

    def test_two_in_both_orders(self):
        for one in RATIOS:
            for other in RATIOS:
                if (0, 1) not in [one, other]:
                    for bench in [[("gap", one), ("glass", other)], [("glass", one), ("gap", other)]]:
                        self.assertEqual(self.right(table_of(bench)), bench)

    def test_three_in_both_orders(self):
        for words in [("gap", "glass", "gap"), ("glass", "gap", "glass")]:
            for parts in itertools.product(NUMBERS[1:], repeat=3):
                bench = list(zip(words, parts))
                self.assertLessEqual(len(self.right(table_of(bench))), 3)
        for table in [table_told(2, 3, 1, 2), table_told(0, 1, -1, 0), table_told(-1, 4, 0, -1), table_told(-1, 0, 4, -1),
                      table_told(2, 5, 0, Fraction(1, 2)), table_told(2, 0, 5, Fraction(1, 2))]:
            self.assertEqual(len(self.right(table)), 3)

    def test_four(self):
        for a in [-1, 2, -2, Fraction(1, 2), Fraction(-5, 7), 10 ** 40, Fraction(1, 10 ** 40)]:
            self.assertEqual(len(self.right(table_told(a, 0, 0, 1 / Fraction(a)))), 4)

    def test_one_part_second_or_third_is_0(self):
        for a in [1, -1, 3, Fraction(-2, 3)]:
            for other in [1, -1, Fraction(5, 2), Fraction(-7, 9)]:
                self.right(table_told(a, other, 0, 1 / Fraction(a)))
                self.right(table_told(a, 0, other, 1 / Fraction(a)))

    def test_first_or_last_is_0(self):
        for b in [1, -1, Fraction(3, 4)]:
            for other in [0, 1, -2, Fraction(1, 2)]:
                self.right(table_told(0, b, -1 / Fraction(b), other))
                self.right(table_told(other, b, -1 / Fraction(b), 0))

    def test_many_tables(self):
        for table in some_tables(31, 400):
            self.right(table)

    def test_no_more_pieces_than_any_bench_with_this_table(self):
        pieces = [(word, one) for word in ["gap", "glass"] for one in NUMBERS]
        for length in range(4):
            for bench in itertools.product(pieces, repeat=length):
                self.assertLessEqual(len(taken_apart(table_of(list(bench)))), length, bench)

    def test_benches_of_many_pieces_come_to_four_at_most(self):
        for bench in some_benches(32, 60, 40, ("gap", "glass")):
            self.assertLessEqual(len(self.right(table_of(bench))), 4)

    def test_a_new_list_each_time(self):
        for table in [table_told(1, 0, 0, 1), table_told(1, 3, 0, 1), table_told(2, 3, 1, 2), table_told(-1, 0, 0, -1)]:
            first = taken_apart(table)
            kept = copy.deepcopy(first)
            self.assertIsNot(first, taken_apart(table))
            first.append(None)
            first[0] = None
            self.assertEqual(taken_apart(table), kept)

    def test_what_is_no_table(self):
        for thing in no_tables():
            with self.assertRaises(NoTable, msg=repr(thing)):
                taken_apart(thing)

    def test_what_is_handed_in_stays_as_it_is(self):
        things = [thing for thing in no_tables() if isinstance(thing, (list, dict, set))]
        before = copy.deepcopy(things)
        for thing in things:
            with self.assertRaises(NoTable):
                taken_apart(thing)
        self.assertEqual(things, before)


if __name__ == "__main__":
    unittest.main()

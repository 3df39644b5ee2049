"""The refusals: all under BenchError, none under another one."""

import copy
import unittest

from grindbench.errors import (
    BenchError, NoBench, NoBox, NoNumber, NoRow, NoStock, NoTable, NoText, NoWish, Unknown,
)

MADE_OF_A_TEXT = [NoNumber, NoText, NoTable, NoBox, NoStock, NoWish, NoRow, Unknown]
REFUSALS = MADE_OF_A_TEXT + [NoBench]


class RefusalsTest(unittest.TestCase):
    def test_bench_error_is_a_value_error_and_no_single_refusal(self):
        self.assertTrue(issubclass(BenchError, ValueError))
        self.assertIsNot(BenchError, ValueError)
        for refusal in REFUSALS:
            self.assertFalse(issubclass(BenchError, refusal), refusal)

    def test_each_stands_under_bench_error_and_under_no_other(self):
        self.assertEqual(len(REFUSALS), len(set(REFUSALS)))
        for refusal in REFUSALS:
            self.assertTrue(issubclass(refusal, BenchError), refusal)
            self.assertTrue(issubclass(refusal, ValueError), refusal)
            for other in REFUSALS:
                if other is not refusal:
                    self.assertFalse(issubclass(refusal, other), (refusal, other))

    def test_each_bears_its_name_and_comes_from_the_errors_file(self):
        names = ["NoNumber", "NoText", "NoTable", "NoBox", "NoStock", "NoWish", "NoRow", "Unknown", "NoBench"]
        self.assertEqual([refusal.__name__ for refusal in REFUSALS], names)
        for refusal in REFUSALS + [BenchError]:
            self.assertEqual(refusal.__module__, "grindbench.errors")

    def test_made_of_a_text_and_taken_by_its_own_name_alone(self):
        for refusal in MADE_OF_A_TEXT:
            made = refusal("some words")
            self.assertIsInstance(made, BenchError)
            self.assertIsInstance(made, ValueError)
            self.assertEqual(str(made), "some words")
            for other in REFUSALS:
                self.assertEqual(isinstance(made, other), other is refusal, (refusal, other))
            with self.assertRaises(refusal):
                raise made

    def test_no_bench_keeps_what_it_is_made_of(self):
        for thing in [None, 0, 1, 59, -1, "a text", [1, 2], (1, 2), {}]:
            made = NoBench(thing)
            self.assertIs(made.at, thing)
            for other in MADE_OF_A_TEXT:
                self.assertNotIsInstance(made, other)
            with self.assertRaises(BenchError) as taken:
                raise made
            self.assertIs(taken.exception.at, thing)

    def test_no_bench_objects_keep_values_of_their_own(self):
        first = NoBench(3)
        second = NoBench(None)
        self.assertEqual((first.at, second.at), (3, None))

    def test_no_bench_changes_nothing_of_what_it_is_made_of(self):
        thing = [1, [2]]
        before = copy.deepcopy(thing)
        NoBench(thing)
        self.assertEqual(thing, before)


if __name__ == "__main__":
    unittest.main()

"""Whole numbers and fractions: what they are, how they are made and reckoned with."""

import copy
import math
import unittest
from fractions import Fraction

from grindbench.errors import NoNumber
from grindbench.ratios import (
    is_less, is_ratio, is_whole, less_by, product_of, quotient_of, ratio_of, sum_of,
)

MANY = 10 ** 60 + 7
WHOLES = [0, 1, -1, 2, -2, 7, -12, 255, 256, 257, -257, 10 ** 15, MANY, -MANY]


def no_wholes():
    """Things of many kinds that are no whole numbers; made anew, for those that can be changed."""
    return [
        True, False, None, "", "1", "0", "-3", "1/2", [], [1], [1, 2], [0], (), (1,), (1, 2), (0, 1), ((1, 2), 3),
        {}, {1: 2}, {"top": 1}, 1.0, 0.0, 2.5, float("nan"), float("inf"), 1j, b"1", bytearray(b"1"), set(), {1},
        frozenset(), Fraction(2), Fraction(1, 2), range(2), object(), int, bool, NotImplemented, ..., len,
        NoNumber("words"),
    ]


def in_lowest_terms(top_most, bottom_most):
    return [
        (top, bottom)
        for top in range(-top_most, top_most + 1)
        for bottom in range(1, bottom_most + 1)
        if math.gcd(top, bottom) == 1
    ]


def told(number):
    return (number.numerator, number.denominator)


SMALL = in_lowest_terms(6, 6)
LONG = [
    told(Fraction(10 ** 40 + 1, 3)),
    told(Fraction(-(10 ** 40) - 1, 10 ** 30 + 57)),
    told(Fraction(2 ** 150, 3 ** 90)),
    told(Fraction(3 ** 90, 2 ** 150)),
    told(Fraction(-(6 ** 80), 35 ** 40)),
    told(Fraction(10 ** 200 + 9, 10 ** 199 + 3)),
    (10 ** 300, 1),
    (-1, 10 ** 300),
]
SOME = [(0, 1), (1, 1), (-1, 1), (5, 1), (1, 2), (-2, 3), (7, 12)]
PAIRS = [(one, other) for one in SMALL for other in SMALL]
PAIRS += [(one, other) for one in LONG for other in LONG + SOME]
PAIRS += [(one, other) for one in SOME for other in LONG]


class WholeTest(unittest.TestCase):
    def test_whole_numbers(self):
        for thing in WHOLES:
            self.assertIs(is_whole(thing), True, thing)

    def test_truths_are_none(self):
        self.assertIs(is_whole(True), False)
        self.assertIs(is_whole(False), False)

    def test_other_kinds_are_none(self):
        for thing in no_wholes():
            self.assertIs(is_whole(thing), False, repr(thing))


class IsRatioTest(unittest.TestCase):
    def test_fractions(self):
        for thing in SMALL + LONG + SOME + [(0, 1), (1, 2), (-1, 2), (4, 1), (-4, 1), (9, 8), (8, 9)]:
            self.assertIs(is_ratio(thing), True, thing)

    def test_bottom_of_0_and_below(self):
        for top in [-3, -1, 0, 1, 3, MANY]:
            for bottom in [0, -1, -2, -5, -MANY]:
                self.assertIs(is_ratio((top, bottom)), False, (top, bottom))

    def test_not_in_lowest_terms(self):
        for thing in [(2, 4), (-2, 4), (2, 2), (-3, 3), (6, 4), (10, 5), (9, 6), (35, 49), (2 * MANY, 4), (MANY, MANY)]:
            self.assertIs(is_ratio(thing), False, thing)

    def test_0_has_one_form(self):
        self.assertIs(is_ratio((0, 1)), True)
        for bottom in [2, 3, 10, MANY, 0, -1, -2]:
            self.assertIs(is_ratio((0, bottom)), False, bottom)

    def test_all_small_tuples(self):
        for top in range(-13, 14):
            for bottom in range(-13, 14):
                asked = bottom >= 1 and math.gcd(top, bottom) == 1
                self.assertIs(is_ratio((top, bottom)), asked, (top, bottom))

    def test_tuples_of_other_lengths(self):
        for thing in [(), (1,), (0,), (1, 2, 3), (1, 2, 1), (1, 1, 1), (0, 1, 0, 1), ((1, 2),), ((1, 2), (1, 3))]:
            self.assertIs(is_ratio(thing), False, thing)

    def test_parts_that_are_no_whole_numbers(self):
        self.assertIs(is_ratio((True, 2)), False)
        self.assertIs(is_ratio((False, 1)), False)
        self.assertIs(is_ratio((1, True)), False)
        self.assertIs(is_ratio((0, True)), False)
        self.assertIs(is_ratio((True, True)), False)
        for part in no_wholes():
            self.assertIs(is_ratio((part, 1)), False, repr(part))
            self.assertIs(is_ratio((1, part)), False, repr(part))
            self.assertIs(is_ratio((part, part)), False, repr(part))

    def test_other_kinds(self):
        for thing in WHOLES + [thing for thing in no_wholes() if thing not in [(1, 2), (0, 1)]]:
            self.assertIs(is_ratio(thing), False, repr(thing))
        for thing in ["12", "1/2", [1, 2], [0, 1], {0: 1, 1: 2}, {1: 0, 2: 0}, range(1, 3), b"12", {1, 2}]:
            self.assertIs(is_ratio(thing), False, repr(thing))


class RatioOfTest(unittest.TestCase):
    def same(self, top, bottom, asked):
        answer = ratio_of(top, bottom)
        self.assertIs(type(answer), tuple)
        self.assertEqual(answer, asked)
        self.assertIs(is_ratio(answer), True)

    def test_ordinary_numbers(self):
        self.same(1, 2, (1, 2))
        self.same(3, 1, (3, 1))
        self.same(-7, 3, (-7, 3))
        self.same(22, 7, (22, 7))

    def test_common_divisors(self):
        self.same(2, 4, (1, 2))
        self.same(6, 4, (3, 2))
        self.same(-10, 5, (-2, 1))
        self.same(84, 36, (7, 3))
        self.same(9, 9, (1, 1))

    def test_second_number_below_0(self):
        self.same(1, -2, (-1, 2))
        self.same(-1, -2, (1, 2))
        self.same(4, -2, (-2, 1))
        self.same(-6, -4, (3, 2))
        self.same(5, -1, (-5, 1))

    def test_first_number_0(self):
        for bottom in [1, 2, 17, -1, -2, -17, MANY, -MANY]:
            self.same(0, bottom, (0, 1))

    def test_numbers_of_many_figures(self):
        self.same(6 * MANY, 4 * MANY, (3, 2))
        self.same(MANY, 1, (MANY, 1))
        self.same(10 ** 300, -(10 ** 299), (-10, 1))
        for top, bottom in [(2 ** 500, 6 ** 200), (10 ** 900 + 1, 10 ** 899 + 1), (-(3 ** 400), -(15 ** 77))]:
            self.same(top, bottom, told(Fraction(top, bottom)))

    def test_all_small_numbers(self):
        for top in range(-24, 25):
            for bottom in list(range(-24, 0)) + list(range(1, 25)):
                self.same(top, bottom, told(Fraction(top, bottom)))

    def test_second_number_0_is_refused(self):
        for top in WHOLES:
            with self.assertRaises(NoNumber, msg=top):
                ratio_of(top, 0)

    def test_other_kinds_are_refused(self):
        for thing in no_wholes():
            for whole in [1, 0, -3, MANY]:
                with self.assertRaises(NoNumber, msg=repr(thing)):
                    ratio_of(thing, whole)
                with self.assertRaises(NoNumber, msg=repr(thing)):
                    ratio_of(whole, thing)
            with self.assertRaises(NoNumber, msg=repr(thing)):
                ratio_of(thing, thing)


class ReckoningTest(unittest.TestCase):
    def same(self, reckoned, asked, pair):
        self.assertIs(type(reckoned), tuple, pair)
        self.assertEqual(reckoned, told(asked), pair)
        self.assertIs(is_ratio(reckoned), True, pair)

    def test_written_out(self):
        self.assertEqual(sum_of((1, 2), (1, 3)), (5, 6))
        self.assertEqual(sum_of((1, 6), (1, 3)), (1, 2))
        self.assertEqual(less_by((1, 2), (1, 3)), (1, 6))
        self.assertEqual(less_by((1, 3), (1, 2)), (-1, 6))
        self.assertEqual(product_of((2, 3), (-3, 4)), (-1, 2))
        self.assertEqual(quotient_of((1, 2), (-3, 4)), (-2, 3))
        self.assertEqual(quotient_of((-1, 2), (-1, 4)), (2, 1))

    def test_sums(self):
        for one, other in PAIRS:
            self.same(sum_of(one, other), Fraction(*one) + Fraction(*other), (one, other))

    def test_differences(self):
        for one, other in PAIRS:
            self.same(less_by(one, other), Fraction(*one) - Fraction(*other), (one, other))

    def test_products(self):
        for one, other in PAIRS:
            self.same(product_of(one, other), Fraction(*one) * Fraction(*other), (one, other))

    def test_quotients(self):
        for one, other in PAIRS:
            if other != (0, 1):
                self.same(quotient_of(one, other), Fraction(*one) / Fraction(*other), (one, other))

    def test_a_quotient_by_0_is_refused(self):
        for one in SMALL + LONG + SOME:
            with self.assertRaises(NoNumber, msg=one):
                quotient_of(one, (0, 1))

    def test_is_less(self):
        for one, other in PAIRS:
            self.assertIs(is_less(one, other), Fraction(*one) < Fraction(*other), (one, other))

    def test_a_fraction_with_itself_and_with_0_less_it(self):
        for one in SMALL + LONG:
            opposite = less_by((0, 1), one)
            self.assertEqual(opposite, (-one[0], one[1]))
            self.assertEqual(sum_of(one, opposite), (0, 1))
            self.assertEqual(less_by(one, one), (0, 1))
            self.assertIs(is_less(one, one), False)
            self.assertIs(is_less(one, opposite), one[0] < 0)
            if one != (0, 1):
                self.assertEqual(quotient_of(one, one), (1, 1))
                self.assertEqual(quotient_of(one, opposite), (-1, 1))

    def test_with_0_and_1(self):
        for one in SMALL + LONG:
            self.assertEqual(sum_of(one, (0, 1)), one)
            self.assertEqual(less_by(one, (0, 1)), one)
            self.assertEqual(product_of(one, (0, 1)), (0, 1))
            self.assertEqual(product_of(one, (1, 1)), one)
            self.assertEqual(quotient_of(one, (1, 1)), one)

    def test_parts_of_a_thousand_figures(self):
        long_one = (10 ** 999 + 1, 1)
        self.assertEqual(sum_of(long_one, (-1, 1)), (10 ** 999, 1))
        self.assertEqual(quotient_of((1, 1), long_one), (1, 10 ** 999 + 1))
        self.assertIs(is_less(long_one, (10 ** 999 + 2, 1)), True)


class NothingChangedTest(unittest.TestCase):
    def test_what_is_handed_in_stays_as_it_is(self):
        things = [[1, 2], [[1], (2, 3)], {"top": [1]}, {1: 2}, bytearray(b"12")]
        before = copy.deepcopy(things)
        for thing in things:
            is_whole(thing)
            is_ratio(thing)
            is_ratio((thing, thing))
            for top, bottom in [(thing, 1), (1, thing), (thing, thing)]:
                with self.assertRaises(NoNumber):
                    ratio_of(top, bottom)
        self.assertEqual(things, before)

    def test_answers_stay_the_same_behind_a_refusal(self):
        for attempt in range(3):
            self.assertEqual(ratio_of(6, -4), (-3, 2), attempt)
            self.assertIs(is_ratio((2, 4)), False, attempt)
            with self.assertRaises(NoNumber):
                ratio_of(6, 0)
            with self.assertRaises(NoNumber):
                quotient_of((6, 1), (0, 1))
            self.assertEqual(quotient_of((6, 1), (4, 1)), (3, 2), attempt)


if __name__ == "__main__":
    unittest.main()

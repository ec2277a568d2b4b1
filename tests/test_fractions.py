"""Promise [12]: fractions, and the refusal to divide by nought."""

import math
import unittest
from fractions import Fraction

from helper import check_refused, is_plain, some_numbers
from pricebend.fractions import fraction_of, is_less, minus, over, plus, times

NUMBERS = some_numbers(70, 12)
NOUGHT = (0, 1)


def told(worth):
    return (worth.numerator, worth.denominator)


SMALL_ONES = [told(Fraction(top, bottom)) for top in range(-6, 7) for bottom in range(1, 6)]
GREAT_ONES = [told(Fraction(top, bottom)) for top, bottom in zip(NUMBERS, NUMBERS[::-1]) if bottom != 0]
ALL = sorted(set(SMALL_ONES + GREAT_ONES))


class OfTwoNumbers(unittest.TestCase):
    def test_told_ones(self):
        for top, bottom, fraction in (
            (1, 2, (1, 2)), (2, 4, (1, 2)), (-2, 4, (-1, 2)), (2, -4, (-1, 2)), (-2, -4, (1, 2)),
            (0, 1, NOUGHT), (0, 7, NOUGHT), (0, -7, NOUGHT), (0, -1, NOUGHT), (0, 10 ** 39, NOUGHT),
            (6, 3, (2, 1)), (6, -3, (-2, 1)), (-6, -3, (2, 1)), (1, 1, (1, 1)), (1, -1, (-1, 1)),
            (7, 5, (7, 5)), (5, 7, (5, 7)), (-5, 7, (-5, 7)), (5, -7, (-5, 7)),
            (10 ** 39, 10 ** 38, (10, 1)), (-(10 ** 39), 2 * 10 ** 39, (-1, 2)),
            (10 ** 40 - 1, 9, ((10 ** 40 - 1) // 9, 1)),
        ):
            with self.subTest(top=top, bottom=bottom):
                self.assertEqual(fraction_of(top, bottom), fraction)

    def test_of_one_number_alone(self):
        for top in NUMBERS:
            self.assertEqual(fraction_of(top), (top, 1))

    def test_many(self):
        for top in NUMBERS:
            for bottom in NUMBERS:
                if bottom != 0:
                    self.assertEqual(fraction_of(top, bottom), told(Fraction(top, bottom)))

    def test_it_is_in_lowest_terms_with_a_bottom_from_1_on(self):
        for top in range(-30, 31):
            for bottom in range(-30, 31):
                if bottom != 0:
                    made, below = fraction_of(top, bottom)
                    self.assertEqual(made * bottom, top * below)
                    self.assertGreaterEqual(below, 1)
                    self.assertEqual(math.gcd(made, below), 1)

    def test_a_bottom_0_is_refused(self):
        for top in NUMBERS:
            with self.subTest(top=top):
                check_refused(self, "NoFraction", None, fraction_of, top, 0)


class OfTwoFractions(unittest.TestCase):
    def test_told_ones(self):
        half, third = (1, 2), (1, 3)
        self.assertEqual(plus(half, third), (5, 6))
        self.assertEqual(plus(half, half), (1, 1))
        self.assertEqual(plus(half, (-1, 2)), NOUGHT)
        self.assertEqual(minus(half, third), (1, 6))
        self.assertEqual(minus(third, half), (-1, 6))
        self.assertEqual(minus(third, third), NOUGHT)
        self.assertEqual(times(half, (2, 3)), third)
        self.assertEqual(times((-1, 2), (-2, 1)), (1, 1))
        self.assertEqual(times(NOUGHT, (-7, 3)), NOUGHT)
        self.assertEqual(over(half, third), (3, 2))
        self.assertEqual(over(half, (-1, 3)), (-3, 2))
        self.assertEqual(over((-1, 2), (-1, 3)), (3, 2))
        self.assertEqual(over(NOUGHT, (-1, 3)), NOUGHT)

    def check(self, one, other):
        a, b = Fraction(*one), Fraction(*other)
        self.assertEqual(plus(one, other), told(a + b))
        self.assertEqual(minus(one, other), told(a - b))
        self.assertEqual(times(one, other), told(a * b))
        self.assertIs(is_less(one, other), a < b)
        if b != 0:
            self.assertEqual(over(one, other), told(a / b))

    def test_many(self):
        for one in ALL:
            for other in ALL:
                self.check(one, other)

    def test_over_by_nought_is_refused(self):
        for one in ALL:
            with self.subTest(one=one):
                check_refused(self, "NoFraction", None, over, one, NOUGHT)

    def test_what_was_told_goes_on(self):
        total, product = NOUGHT, (1, 1)
        for one in GREAT_ONES[1:20]:
            total = plus(total, one)
            product = times(product, one)
        self.assertEqual(total, told(sum((Fraction(*one) for one in GREAT_ONES[1:20]), Fraction(0))))
        self.assertEqual(product, told(math.prod(Fraction(*one) for one in GREAT_ONES[1:20])))


class Less(unittest.TestCase):
    def test_told_ones(self):
        for a, b, less in (
            ((1, 2), (2, 3), True), ((2, 3), (1, 2), False), ((1, 2), (1, 2), False),
            ((-1, 2), (1, 3), True), ((-1, 2), (-1, 3), True), ((-1, 3), (-1, 2), False),
            (NOUGHT, (1, 9), True), (NOUGHT, (-1, 9), False), (NOUGHT, NOUGHT, False),
            ((10 ** 39, 10 ** 39 + 1), (10 ** 39 + 1, 10 ** 39 + 2), True),
            ((10 ** 39 + 1, 10 ** 39 + 2), (10 ** 39, 10 ** 39 + 1), False),
        ):
            with self.subTest(a=a, b=b):
                self.assertIs(is_less(a, b), less)

    def test_it_is_no_order_of_tuples(self):
        self.assertIs(is_less((1, 3), (1, 2)), True)
        self.assertIs(is_less((2, 5), (1, 2)), True)
        self.assertIs(is_less((1, 2), (2, 5)), False)


class WhatIsTold(unittest.TestCase):
    def test_it_is_made_of_whole_numbers_alone(self):
        for one, other in zip(ALL, ALL[5:]):
            for fraction in (fraction_of(*one), plus(one, other), minus(one, other), times(one, other)):
                self.assertTrue(is_plain(fraction))
                self.assertEqual([type(number) for number in fraction], [int, int])
            self.assertIs(type(is_less(one, other)), bool)

    def test_a_refusal_changes_no_later_answer(self):
        check_refused(self, "NoFraction", None, fraction_of, 1, 0)
        check_refused(self, "NoFraction", None, over, (1, 2), NOUGHT)
        self.assertEqual(fraction_of(2, 4), (1, 2))
        self.assertEqual(over((1, 2), (1, 4)), (2, 1))


if __name__ == "__main__":
    unittest.main()

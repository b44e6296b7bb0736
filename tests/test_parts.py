"""Points 13 to 16: divisors, fractions and how they are reckoned with."""

import math
import unittest
from fractions import Fraction

from quotatree.errors import NoAmount
from quotatree.parts import below, divided, divisor, fraction, minus, parted, plus, times

# Neither a float nor a machine word holds these.
VAST = 3 ** 1500
WIDE = 10 ** 400 + 1
NUMBERS = tuple(range(-13, 14)) + (97, -360, 2 ** 64, -(10 ** 30), VAST, -VAST, WIDE, -WIDE, 6 * VAST)
FRACTIONS = (
    (0, 1), (1, 1), (-1, 1), (2, 1), (-7, 1), (1, 2), (-1, 2), (1, 3), (2, 3), (-2, 3), (3, 4), (-5, 4),
    (7, 6), (-7, 6), (5, 12), (1, 1000), (10 ** 30, 7), (-(10 ** 30), 9), (1, 2 ** 64),
    (VAST, 1), (VAST, 2 ** 900), (-VAST, 2 ** 900), (1, VAST), (VAST + 1, VAST), (VAST, VAST + 1), (WIDE, VAST),
)
PAIRS = [(one, other) for one in FRACTIONS for other in FRACTIONS]


def as_tuple(value):
    return (value.numerator, value.denominator)


class FractionCase(unittest.TestCase):
    def assert_fraction(self, told, hoped):
        self.assertIs(type(told), tuple)
        self.assertEqual([type(number) for number in told], [int, int])
        self.assertEqual(told, hoped)
        self.assertGreaterEqual(told[1], 1)
        self.assertEqual(math.gcd(told[0], told[1]), 1)


class Divisor(FractionCase):
    def test_both_above_nought(self):
        for one, other, hoped in ((12, 18, 6), (7, 5, 1), (8, 8, 8), (1, 9, 1), (5, 15, 5), (270, 192, 6)):
            with self.subTest(one=one, other=other):
                self.assertEqual(divisor(one, other), hoped)
                self.assertEqual(divisor(other, one), hoped)

    def test_one_or_both_below_nought(self):
        for one, other in ((-12, 18), (12, -18), (-12, -18), (18, -12), (-18, 12), (-18, -12)):
            with self.subTest(one=one, other=other):
                self.assertEqual(divisor(one, other), 6)

    def test_one_of_them_nought(self):
        for number in (1, 2, 9, 10 ** 30, VAST):
            with self.subTest(figures=len(str(number))):
                self.assertEqual(divisor(number, 0), number)
                self.assertEqual(divisor(0, number), number)
                self.assertEqual(divisor(-number, 0), number)
                self.assertEqual(divisor(0, -number), number)

    def test_both_nought(self):
        self.assertEqual(divisor(0, 0), 0)

    def test_many_figures(self):
        for one, other, hoped in (
            (VAST * 10, VAST * 15, VAST * 5), (VAST, VAST + 1, 1), (-VAST * 4, VAST * 6, VAST * 2),
            (2 ** 3000, 6 ** 1000, 2 ** 1000), (WIDE * VAST, WIDE * 2 ** 900, WIDE),
        ):
            self.assertEqual(divisor(one, other), hoped)
            self.assertEqual(divisor(other, one), hoped)

    def test_neighbours_that_take_the_most_steps(self):
        one, other = 1, 1
        for step in range(2000):
            one, other = other, one + other
        self.assertEqual(divisor(one, other), 1)
        self.assertEqual(divisor(21 * other, 21 * one), 21)

    def test_it_divides_both_and_nothing_greater_does(self):
        for one in range(-12, 13):
            for other in range(-12, 13):
                if one != 0 or other != 0:
                    both = [n for n in range(1, 13) if one % n == 0 and other % n == 0]
                    self.assertEqual(divisor(one, other), max(both))

    def test_all_pairs_and_never_below_nought(self):
        for one in NUMBERS:
            for other in NUMBERS:
                told = divisor(one, other)
                self.assertIs(type(told), int)
                self.assertEqual(told, math.gcd(one, other))
                self.assertGreaterEqual(told, 0)


class MakingFractions(FractionCase):
    def test_lowest_terms(self):
        for top, bottom, hoped in (
            (1, 2, (1, 2)), (2, 4, (1, 2)), (6, 4, (3, 2)), (8, 4, (2, 1)), (5, 5, (1, 1)), (7, 1, (7, 1)),
            (-6, 4, (-3, 2)), (-5, 5, (-1, 1)), (-4, 2, (-2, 1)), (1, 1000, (1, 1000)),
        ):
            with self.subTest(top=top, bottom=bottom):
                self.assert_fraction(fraction(top, bottom), hoped)

    def test_second_number_below_nought(self):
        for top, bottom, hoped in (
            (1, -2, (-1, 2)), (-1, -2, (1, 2)), (6, -4, (-3, 2)), (-6, -4, (3, 2)), (3, -1, (-3, 1)),
            (-3, -3, (1, 1)), (3, -3, (-1, 1)),
        ):
            with self.subTest(top=top, bottom=bottom):
                self.assert_fraction(fraction(top, bottom), hoped)

    def test_nought(self):
        for bottom in (1, 2, -1, -9, 10 ** 30, VAST, -VAST):
            self.assert_fraction(fraction(0, bottom), (0, 1))

    def test_by_nought_is_refused(self):
        for top in (0, 1, -1, 10 ** 30, VAST):
            with self.subTest(figures=len(str(top))):
                with self.assertRaises(NoAmount):
                    fraction(top, 0)

    def test_many_figures(self):
        self.assert_fraction(fraction(VAST * 6, VAST * 4), (3, 2))
        self.assert_fraction(fraction(VAST * 6, -VAST * 4), (-3, 2))
        self.assert_fraction(fraction(WIDE * VAST, WIDE * 2 ** 900), (VAST, 2 ** 900))
        self.assert_fraction(fraction(10 ** 30 + 1, 10 ** 30), (10 ** 30 + 1, 10 ** 30))

    def test_all_pairs(self):
        for top in NUMBERS:
            for bottom in NUMBERS:
                if bottom != 0:
                    self.assert_fraction(fraction(top, bottom), as_tuple(Fraction(top, bottom)))


class Reckoning(FractionCase):
    def test_sums(self):
        for one, other, hoped in (
            ((1, 2), (1, 3), (5, 6)), ((1, 6), (1, 3), (1, 2)), ((1, 2), (1, 2), (1, 1)), ((1, 2), (-1, 2), (0, 1)),
            ((-1, 2), (-1, 3), (-5, 6)), ((0, 1), (3, 4), (3, 4)), ((3, 4), (0, 1), (3, 4)), ((0, 1), (0, 1), (0, 1)),
        ):
            with self.subTest(one=one, other=other):
                self.assert_fraction(plus(one, other), hoped)

    def test_differences(self):
        for one, other, hoped in (
            ((1, 2), (1, 3), (1, 6)), ((1, 3), (1, 2), (-1, 6)), ((1, 2), (1, 6), (1, 3)), ((1, 2), (1, 2), (0, 1)),
            ((1, 2), (-1, 2), (1, 1)), ((0, 1), (3, 4), (-3, 4)), ((3, 4), (0, 1), (3, 4)), ((-1, 4), (-3, 4), (1, 2)),
        ):
            with self.subTest(one=one, other=other):
                self.assert_fraction(minus(one, other), hoped)

    def test_products(self):
        for one, other, hoped in (
            ((1, 2), (1, 3), (1, 6)), ((2, 3), (3, 4), (1, 2)), ((2, 3), (3, 2), (1, 1)), ((-2, 3), (3, 4), (-1, 2)),
            ((-2, 3), (-3, 4), (1, 2)), ((0, 1), (3, 4), (0, 1)), ((3, 4), (0, 1), (0, 1)), ((-3, 4), (0, 1), (0, 1)),
        ):
            with self.subTest(one=one, other=other):
                self.assert_fraction(times(one, other), hoped)

    def test_quotients(self):
        for one, other, hoped in (
            ((1, 2), (1, 3), (3, 2)), ((1, 3), (1, 2), (2, 3)), ((3, 4), (3, 4), (1, 1)), ((0, 1), (3, 4), (0, 1)),
            ((1, 2), (-1, 3), (-3, 2)), ((-1, 2), (1, 3), (-3, 2)), ((-1, 2), (-1, 3), (3, 2)), ((0, 1), (-3, 4), (0, 1)),
            ((5, 1), (-1, 1), (-5, 1)), ((4, 1), (2, 1), (2, 1)),
        ):
            with self.subTest(one=one, other=other):
                self.assert_fraction(divided(one, other), hoped)

    def test_quotient_by_nought_is_refused(self):
        for one in FRACTIONS:
            with self.assertRaises(NoAmount):
                divided(one, (0, 1))

    def test_all_pairs(self):
        for one, other in PAIRS:
            left, right = Fraction(*one), Fraction(*other)
            self.assert_fraction(plus(one, other), as_tuple(left + right))
            self.assert_fraction(minus(one, other), as_tuple(left - right))
            self.assert_fraction(times(one, other), as_tuple(left * right))
            if right != 0:
                self.assert_fraction(divided(one, other), as_tuple(left / right))


class Below(FractionCase):
    def test_below(self):
        for one, other in (
            ((1, 3), (1, 2)), ((2, 3), (3, 4)), ((-1, 2), (-1, 3)), ((-1, 2), (0, 1)), ((0, 1), (1, 1000)),
            ((-1, 1), (1, 1)), ((-3, 2), (-1, 1)), ((1, 1), (1001, 1000)),
        ):
            with self.subTest(one=one, other=other):
                self.assertIs(below(one, other), True)
                self.assertIs(below(other, one), False)

    def test_none_is_below_itself(self):
        for one in FRACTIONS:
            self.assertIs(below(one, one), False)

    def test_exact_where_the_two_are_very_near(self):
        self.assertIs(below((VAST, VAST + 1), (VAST + 1, VAST + 2)), True)
        self.assertIs(below((VAST + 1, VAST + 2), (VAST, VAST + 1)), False)

    def test_all_pairs(self):
        for one, other in PAIRS:
            self.assertIs(below(one, other), Fraction(*one) < Fraction(*other))


class Parted(FractionCase):
    def test_above_nought(self):
        for one, whole, rest in (
            ((7, 4), 1, (3, 4)), ((1, 2), 0, (1, 2)), ((8, 3), 2, (2, 3)), ((1, 1000), 0, (1, 1000)),
        ):
            with self.subTest(one=one):
                self.assertEqual(parted(one), (whole, rest))

    def test_below_nought(self):
        for one, whole, rest in (
            ((-7, 4), -2, (1, 4)), ((-1, 2), -1, (1, 2)), ((-8, 3), -3, (1, 3)), ((-1, 1000), -1, (999, 1000)),
        ):
            with self.subTest(one=one):
                self.assertEqual(parted(one), (whole, rest))

    def test_whole_ones(self):
        for whole in (0, 1, -1, 5, -5, 10 ** 30, VAST, -VAST):
            self.assertEqual(parted((whole, 1)), (whole, (0, 1)))

    def test_many_figures(self):
        self.assertEqual(parted((VAST * 7 + 1, VAST)), (7, (1, VAST)))
        self.assertEqual(parted((-VAST * 7 - 1, VAST)), (-8, (VAST - 1, VAST)))

    def test_the_rest_is_from_nought_on_and_below_one(self):
        for one in FRACTIONS:
            told = parted(one)
            self.assertIs(type(told), tuple)
            self.assertEqual(len(told), 2)
            self.assertIs(type(told[0]), int)
            value = Fraction(*one)
            whole = math.floor(value)
            self.assertEqual(told[0], whole)
            self.assert_fraction(told[1], as_tuple(value - whole))
            self.assertTrue(0 <= Fraction(*told[1]) < 1)


if __name__ == "__main__":
    unittest.main()

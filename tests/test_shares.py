"""Promises [2] and [4]: whole numbers, the divisor, and fractions."""

import math
import random
import unittest
from fractions import Fraction

from pursebench.errors import BenchError, NoShare
from pursebench.shares import below, divisor, is_whole, minus, plus, share, times

GREAT = 10 ** 400 - 1


def neighbours(steps):
    """Two neighbours in Fibonacci's row: no common divisor above 1, and the longest way to find that out."""
    one, other = 1, 1
    for step in range(steps):
        one, other = other, one + other
    return (one, other)


def pair(fraction):
    return (fraction.numerator, fraction.denominator)


def some_fractions():
    """Fractions of either sign, small and great, in lowest terms, the same ones each time."""
    chance = random.Random(4)
    found = [(0, 1), (1, 1), (-1, 1), (1, 2), (-1, 2), (1, 3), (2, 3), (5, 6), (-7, 6), (3, 4), (7, 1)]
    found.append((GREAT, GREAT - 1))
    found.append((-GREAT, GREAT - 1))
    found.append((1, GREAT))
    for figures in [2, 20, 200, 400]:
        for number in range(4):
            top = chance.randrange(-(10 ** figures) + 1, 10 ** figures)
            bottom = chance.randrange(1, 10 ** figures)
            found.append(pair(Fraction(top, bottom)))
    return found


class Cases(unittest.TestCase):
    def assert_fraction(self, told, wanted):
        self.assertIs(type(told), tuple)
        self.assertEqual([type(part) for part in told], [int, int])
        self.assertEqual(told, wanted)


class IsWhole(Cases):
    def test_whole_numbers(self):
        for number in [0, 1, -1, 2, 5, -17, 10 ** 20, -(10 ** 22), 10 ** 3999, -(10 ** 3999)]:
            self.assertIs(is_whole(number), True)

    def test_truths_and_none(self):
        for thing in [True, False, None]:
            with self.subTest(thing=thing):
                self.assertIs(is_whole(thing), False)

    def test_texts(self):
        for thing in ["", " ", "0", "1", "12", "-3", "a", "\t\n", "~"]:
            with self.subTest(thing=thing):
                self.assertIs(is_whole(thing), False)

    def test_lists_and_tuples(self):
        for thing in [[], (), [0], [1], (0,), (1,), (1, 2), [[]], ([], ()), [1, [2, (3,)]], [True], (None,)]:
            with self.subTest(thing=thing):
                self.assertIs(is_whole(thing), False)

    def test_deep_things(self):
        thing = 1
        for depth in range(2000):
            thing = [thing] if depth % 2 else (thing,)
        self.assertIs(is_whole(thing), False)


class Divisor(Cases):
    def assert_divisor(self, one, other, wanted):
        for first, second in [(one, other), (other, one)]:
            told = divisor(first, second)
            self.assertIs(type(told), int)
            self.assertEqual(told, wanted)

    def test_of_nought_and_nought(self):
        self.assert_divisor(0, 0, 0)

    def test_of_nought_and_another(self):
        for number in [1, 2, 12, 10 ** 300]:
            self.assert_divisor(0, number, number)
            self.assert_divisor(0, -number, number)

    def test_of_either_sign(self):
        for one, other, wanted in [(12, 18, 6), (7, 7, 7), (1, 9, 1), (8, 4, 4), (9, 10, 1), (35, 21, 7)]:
            for sign in [1, -1]:
                for another in [1, -1]:
                    self.assert_divisor(sign * one, another * other, wanted)

    def test_every_small_pair(self):
        for one in range(-25, 26):
            for other in range(-25, 26):
                self.assertEqual(divisor(one, other), math.gcd(one, other))

    def test_without_a_common_divisor_and_multiplied(self):
        one, other = neighbours(1900)
        self.assertGreater(one, 10 ** 390)
        self.assert_divisor(one, other, 1)
        self.assert_divisor(10 ** 350, 10 ** 350 - 1, 1)
        for third in [2, 97, 10 ** 200 + 7]:
            self.assert_divisor(one * third, other * third, third)
            self.assert_divisor(-one * third, other * third, third)

    def test_numbers_of_some_hundred_figures(self):
        chance = random.Random(5)
        for number in range(10):
            one = chance.randrange(10 ** 399, 10 ** 400)
            other = chance.randrange(10 ** 299, 10 ** 300)
            self.assert_divisor(one, other, math.gcd(one, other))
            self.assert_divisor(one * other, other, other)


class Share(Cases):
    def test_lowest_terms(self):
        self.assert_fraction(share(6, 8), (3, 4))
        self.assert_fraction(share(3, 4), (3, 4))
        self.assert_fraction(share(8, 4), (2, 1))
        self.assert_fraction(share(5, 5), (1, 1))

    def test_bottom_from_one_on_whatever_the_signs(self):
        self.assert_fraction(share(6, -8), (-3, 4))
        self.assert_fraction(share(-6, 8), (-3, 4))
        self.assert_fraction(share(-6, -8), (3, 4))
        self.assert_fraction(share(1, -1), (-1, 1))
        self.assert_fraction(share(-7, -7), (1, 1))

    def test_top_of_nought(self):
        for bottom in [1, -1, 7, -7, GREAT, -GREAT]:
            self.assert_fraction(share(0, bottom), (0, 1))

    def test_bottom_of_nought_is_refused(self):
        for top in [0, 1, -1, 12, GREAT, -GREAT]:
            with self.assertRaises(NoShare):
                share(top, 0)
            with self.assertRaises(BenchError):
                share(top, 0)

    def test_every_small_pair(self):
        for top in range(-20, 21):
            for bottom in range(-20, 21):
                if bottom != 0:
                    self.assert_fraction(share(top, bottom), pair(Fraction(top, bottom)))

    def test_four_hundred_figures(self):
        self.assert_fraction(share(GREAT, GREAT), (1, 1))
        self.assert_fraction(share(GREAT, -GREAT), (-1, 1))
        self.assert_fraction(share(GREAT, GREAT - 1), (GREAT, GREAT - 1))
        third = 10 ** 350 + 3
        one, other = neighbours(230)
        self.assert_fraction(share(-one * third, -other * third), (one, other))
        self.assert_fraction(share(one * third, -other * third), (-one, other))


class Sums(Cases):
    def assert_like_fractions(self, deed, wanted):
        for one in some_fractions():
            for other in some_fractions():
                told = deed(one, other)
                self.assert_fraction(told, pair(wanted(Fraction(*one), Fraction(*other))))

    def test_plus(self):
        self.assert_fraction(plus((1, 2), (1, 3)), (5, 6))
        self.assert_fraction(plus((1, 6), (1, 3)), (1, 2))
        self.assert_fraction(plus((1, 4), (1, 4)), (1, 2))
        self.assert_fraction(plus((1, 2), (-1, 2)), (0, 1))
        self.assert_fraction(plus((0, 1), (-3, 7)), (-3, 7))
        self.assert_like_fractions(plus, lambda one, other: one + other)

    def test_minus(self):
        self.assert_fraction(minus((1, 2), (1, 3)), (1, 6))
        self.assert_fraction(minus((1, 3), (1, 2)), (-1, 6))
        self.assert_fraction(minus((3, 4), (1, 4)), (1, 2))
        self.assert_fraction(minus((5, 9), (5, 9)), (0, 1))
        self.assert_fraction(minus((0, 1), (-3, 7)), (3, 7))
        self.assert_like_fractions(minus, lambda one, other: one - other)

    def test_times(self):
        self.assert_fraction(times((2, 3), (3, 4)), (1, 2))
        self.assert_fraction(times((-2, 3), (3, 2)), (-1, 1))
        self.assert_fraction(times((-2, 3), (-5, 7)), (10, 21))
        self.assert_fraction(times((0, 1), (-3, 7)), (0, 1))
        self.assert_like_fractions(times, lambda one, other: one * other)

    def test_what_is_handed_in_stays(self):
        one, other = (-6, 35), (10, 21)
        for deed in [plus, minus, times, below]:
            deed(one, other)
            self.assertEqual((one, other), ((-6, 35), (10, 21)))


class Below(Cases):
    def test_ordinary(self):
        self.assertIs(below((1, 3), (1, 2)), True)
        self.assertIs(below((1, 2), (1, 3)), False)
        self.assertIs(below((2, 3), (3, 4)), True)
        self.assertIs(below((3, 1), (10, 3)), True)

    def test_like_fractions(self):
        for one in some_fractions():
            self.assertIs(below(one, one), False)

    def test_either_sign(self):
        self.assertIs(below((-1, 2), (-1, 3)), True)
        self.assertIs(below((-1, 3), (-1, 2)), False)
        self.assertIs(below((-1, 2), (0, 1)), True)
        self.assertIs(below((0, 1), (-1, 2)), False)
        self.assertIs(below((-5, 1), (1, 9)), True)
        self.assertIs(below((1, 9), (-5, 1)), False)

    def test_great_ones_that_differ_by_very_little(self):
        less = (GREAT - 2, GREAT - 1)
        more = (GREAT - 1, GREAT)
        self.assertIs(below(less, more), True)
        self.assertIs(below(more, less), False)
        self.assertIs(below((-GREAT + 1, GREAT), (-GREAT + 2, GREAT - 1)), True)
        self.assertIs(below((GREAT, 1), (GREAT - 1, 1)), False)
        self.assertIs(below((GREAT - 1, 1), (GREAT, 1)), True)

    def test_every_pair(self):
        for one in some_fractions():
            for other in some_fractions():
                self.assertIs(below(one, other), Fraction(*one) < Fraction(*other))


if __name__ == "__main__":
    unittest.main()

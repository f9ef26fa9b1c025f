"""Promises 2 and 4: fractions, their sums, differences, products, quotients, order and writing."""

import itertools
import random
import sys
import unittest
from fractions import Fraction

from shimright.errors import NoChoice, NoNumber, ShimError
from shimright.fractions import below, fraction, minus, over, plus, show, times
from tests.helpers import EIGHTY, pair, value

BOTTOMS = (1, 2, 3, 4, 6, 9)
SMALL = [(top, low) for top in range(-7, 8) for low in BOTTOMS if Fraction(top, low).denominator == low]


def long_fractions():
    source = random.Random(20)
    found = [(0, 1), (1, 1), (-1, 1), (EIGHTY, 1), (-EIGHTY, 1), (1, EIGHTY), (-1, EIGHTY), (EIGHTY - 1, EIGHTY)]
    for figures in (10, 20, 40, 79, 80):
        for again in range(4):
            top = source.randrange(10 ** (figures - 1), 10 ** figures) * source.choice((1, -1))
            found.append(pair(Fraction(top, source.randrange(10 ** (figures - 1), 10 ** figures))))
    return found


class Case(unittest.TestCase):
    def assert_fraction(self, told, wanted):
        self.assertIsInstance(told, tuple)
        self.assertEqual(len(told), 2)
        for part in told:
            self.assertIsInstance(part, int)
            self.assertNotIsInstance(part, bool)
        self.assertEqual(told, pair(wanted))


class FractionTest(Case):
    def test_written_out(self):
        asked = [
            ((1, 2), (1, 2)), ((2, 4), (1, 2)), ((4, 2), (2, 1)), ((6, 4), (3, 2)), ((7, 7), (1, 1)),
            ((-2, 4), (-1, 2)), ((2, -4), (-1, 2)), ((-2, -4), (1, 2)), ((-5, 1), (-5, 1)), ((5, -1), (-5, 1)),
            ((0, 1), (0, 1)), ((0, 9), (0, 1)), ((0, -9), (0, 1)), ((-7, -7), (1, 1)), ((1, -1), (-1, 1)),
        ]
        for (top, bottom), wanted in asked:
            with self.subTest(top=top, bottom=bottom):
                self.assertEqual(fraction(top, bottom), wanted)

    def test_all_small_ones_are_in_lowest_terms(self):
        for top in range(-40, 41):
            for bottom in range(-40, 41):
                if bottom != 0:
                    self.assert_fraction(fraction(top, bottom), Fraction(top, bottom))

    def test_up_to_eighty_figures(self):
        for top, bottom in long_fractions():
            for factor in (1, -1, 6, -10 ** 20):
                self.assert_fraction(fraction(top * factor, bottom * factor), Fraction(top, bottom))
        self.assertEqual(fraction(EIGHTY, EIGHTY), (1, 1))
        self.assertEqual(fraction(-EIGHTY, EIGHTY), (-1, 1))
        self.assertEqual(fraction(EIGHTY, -9), (-EIGHTY // 9, 1))
        self.assertEqual(fraction(0, -EIGHTY), (0, 1))

    def test_a_bottom_of_0_is_refused(self):
        for top in (0, 1, -1, 7, EIGHTY, -EIGHTY):
            with self.subTest(top=top):
                with self.assertRaises(NoNumber) as caught:
                    fraction(top, 0)
                self.assertIsInstance(caught.exception, ShimError)
                self.assertNotIsInstance(caught.exception, NoChoice)


class ReckoningTest(Case):
    def check_all(self, fractions):
        for q, r in itertools.product(fractions, repeat=2):
            with self.subTest(q=q, r=r):
                self.assert_fraction(plus(q, r), value(q) + value(r))
                self.assert_fraction(minus(q, r), value(q) - value(r))
                self.assert_fraction(times(q, r), value(q) * value(r))
                if r != (0, 1):
                    self.assert_fraction(over(q, r), value(q) / value(r))
                self.assertIs(below(q, r), value(q) < value(r))

    def test_written_out(self):
        self.assertEqual(plus((1, 2), (1, 3)), (5, 6))
        self.assertEqual(plus((1, 6), (1, 3)), (1, 2))
        self.assertEqual(plus((1, 2), (-1, 2)), (0, 1))
        self.assertEqual(minus((1, 2), (1, 3)), (1, 6))
        self.assertEqual(minus((1, 3), (1, 2)), (-1, 6))
        self.assertEqual(minus((3, 4), (3, 4)), (0, 1))
        self.assertEqual(times((2, 3), (3, 2)), (1, 1))
        self.assertEqual(times((-2, 3), (1, 2)), (-1, 3))
        self.assertEqual(times((0, 1), (-5, 7)), (0, 1))
        self.assertEqual(over((1, 2), (1, 4)), (2, 1))
        self.assertEqual(over((1, 2), (-3, 4)), (-2, 3))
        self.assertEqual(over((-1, 2), (-3, 1)), (1, 6))
        self.assertEqual(over((0, 1), (-3, 4)), (0, 1))

    def test_small_ones(self):
        self.check_all(SMALL)

    def test_long_ones(self):
        self.check_all(long_fractions())

    def test_a_quotient_by_0_is_refused(self):
        for q in [(0, 1), (1, 1), (-1, 1), (2, 3), (-2, 3), (EIGHTY, 1), (-1, EIGHTY)]:
            with self.subTest(q=q):
                with self.assertRaises(NoNumber):
                    over(q, (0, 1))

    def test_what_was_told_is_reckoned_on(self):
        q = (EIGHTY, EIGHTY - 1)
        wanted = Fraction(*q)
        for again in range(5):
            q = times(q, q)
            wanted = wanted * wanted
            self.assert_fraction(q, wanted)
            self.assert_fraction(plus(q, (1, 3)), wanted + Fraction(1, 3))

    def test_the_same_asked_again_is_answered_the_same(self):
        for asked in (plus, minus, times, over, below):
            first = asked((1, 2), (-3, 4))
            asked((5, 7), (7, 5))
            self.assertEqual(asked((1, 2), (-3, 4)), first)
        self.assertEqual([fraction(6, -4), fraction(0, 3), fraction(6, -4)], [(-3, 2), (0, 1), (-3, 2)])


class BelowTest(unittest.TestCase):
    def test_both_ways(self):
        ordered = [(-EIGHTY, 1), (-3, 1), (-3, 2), (-1, 2), (-1, 3), (-1, EIGHTY), (0, 1), (1, EIGHTY), (1, 3),
                   (1, 2), (2, 3), (3, 2), (2, 1), (EIGHTY - 1, 1), (EIGHTY, 1)]
        for i, q in enumerate(ordered):
            for j, r in enumerate(ordered):
                with self.subTest(q=q, r=r):
                    self.assertIs(below(q, r), i < j)

    def test_just_beside(self):
        self.assertIs(below((EIGHTY - 2, EIGHTY - 1), (EIGHTY - 1, EIGHTY)), True)
        self.assertIs(below((EIGHTY - 1, EIGHTY), (EIGHTY - 2, EIGHTY - 1)), False)


class ShowTest(unittest.TestCase):
    def test_written_out(self):
        asked = [
            ((0, 1), "0"), ((1, 1), "1"), ((-1, 1), "-1"), ((12, 1), "12"), ((-305, 1), "-305"), ((10, 1), "10"),
            ((1, 2), "1/2"), ((-1, 2), "-1/2"), ((22, 7), "22/7"), ((-22, 7), "-22/7"), ((1, 10), "1/10"),
            ((EIGHTY, 1), "9" * 80), ((-EIGHTY, 1), "-" + "9" * 80), ((1, EIGHTY), "1/" + "9" * 80),
            ((-EIGHTY + 1, EIGHTY), "-" + "9" * 79 + "8/" + "9" * 80), ((10 ** 79, 1), "1" + "0" * 79),
        ]
        for q, wanted in asked:
            with self.subTest(wanted=wanted):
                told = show(q)
                self.assertIsInstance(told, str)
                self.assertEqual(told, wanted)

    def test_every_length(self):
        for figures in range(1, 300):
            for top in (10 ** figures - 1, 10 ** figures, 10 ** figures + 1, -10 ** figures):
                self.assertEqual(show((top, 1)), str(top))

    def test_others(self):
        for top, bottom in SMALL + long_fractions():
            self.assertEqual(show((top, bottom)), str(Fraction(top, bottom)))

    def test_what_was_told_is_written_however_long_it_is(self):
        q = (-EIGHTY, EIGHTY - 1)
        for again in range(7):
            q = times(q, q)
        q = minus((0, 1), q)
        most = sys.get_int_max_str_digits()
        sys.set_int_max_str_digits(0)
        wanted = str(q[0]) + "/" + str(q[1])
        sys.set_int_max_str_digits(most)
        self.assertGreater(len(wanted), 20000)
        self.assertTrue(show(q) == wanted)


if __name__ == "__main__":
    unittest.main()

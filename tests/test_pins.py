"""Promises 2, 20 and 21: pins and holes as a plan, and the first of them that are too far apart."""

import itertools
import random
import unittest
from fractions import Fraction

from shimright.choices import choice_for
from shimright.pins import first_apart, pin_plan
from shimright.plans import fits, is_plan
from tests.helpers import EIGHTY, TINY, check_own, corners, drawing, pair, pairs, written


def told_pairs(*pins):
    return written(list(pins))


def plan_of(pins, least=-10, greatest=10):
    return pin_plan(told_pairs(*pins), pair(least), pair(greatest))


def apart(pins, offs, least=-10, greatest=10):
    return first_apart(told_pairs(*pins), pair(least), pair(greatest), pairs(*offs))


def shifts(pins, offs, least, greatest):
    """The least and the greatest shift for these, by another way: None where there is none."""
    low = max([least] + [off - slack for off, (x, y, slack) in zip(offs, pins)])
    high = min([greatest] + [off + slack for off, (x, y, slack) in zip(offs, pins)])
    return (low, high) if low <= high else None


def drawn_pins(source, figures, count):
    draw = drawing(source, figures)
    pins = []
    for k in range(count):
        low, high = sorted([draw(), draw()]) if source.randrange(5) else [draw()] * 2
        pins.append((low, high, abs(draw()) * source.choice((0, 1, 1, Fraction(1, 2)))))
    least, greatest = sorted([draw(), draw()]) if source.randrange(5) else [draw()] * 2
    return pins, least, greatest


class PinPlanTest(unittest.TestCase):
    def assert_plan(self, pins, least, greatest, wanted):
        told = plan_of(pins, least, greatest)
        self.assertIs(is_plan(told), True)
        self.assertEqual(told, written(wanted))

    def test_one_pair(self):
        self.assert_plan([(-1, 2, Fraction(1, 2))], -3, 4, (
            [(-1, 2)], [(-3, 4)], [([1], [-1], Fraction(1, 2)), ([-1], [1], Fraction(1, 2))],
        ))

    def test_two_pairs_and_their_demands_in_order(self):
        self.assert_plan([(-1, 2, 3), (0, 5, Fraction(1, 7))], 0, 1, (
            [(-1, 2), (0, 5)], [(0, 1)],
            [([1, 0], [-1], 3), ([-1, 0], [1], 3), ([0, 1], [-1], Fraction(1, 7)), ([0, -1], [1], Fraction(1, 7))],
        ))

    def test_four_pairs(self):
        pins = [(k, k + 1, k + 2) for k in range(4)]
        demands = []
        for k in range(4):
            row = [int(j == k) for j in range(4)]
            demands += [(row, [-1], k + 2), ([-q for q in row], [1], k + 2)]
        self.assert_plan(pins, -1, 1, ([(k, k + 1) for k in range(4)], [(-1, 1)], demands))

    def test_low_that_is_high_slack_0_and_least_that_is_greatest(self):
        self.assert_plan([(2, 2, 0)], 3, 3, ([(2, 2)], [(3, 3)], [([1], [-1], 0), ([-1], [1], 0)]))

    def test_the_same_pair_twice(self):
        self.assert_plan([(0, 1, 2)] * 2, 0, 0, (
            [(0, 1)] * 2, [(0, 0)], [([1, 0], [-1], 2), ([-1, 0], [1], 2), ([0, 1], [-1], 2), ([0, -1], [1], 2)],
        ))

    def test_it_says_that_each_off_less_the_shift_is_within_the_slack(self):
        source = random.Random(20)
        seen = {True: 0, False: 0}
        for again in range(200):
            pins, least, greatest = drawn_pins(source, (1, 1, 40)[again % 3], 1 + again % 4)
            offs = [source.choice((low, high, (low + high) / 2)) for low, high, slack in pins]
            found = shifts(pins, offs, least, greatest)
            shift = source.choice(found or (least, greatest))
            told = fits(plan_of(pins, least, greatest), pairs(*offs), [pair(shift)])
            wanted = all(-slack <= off - shift <= slack for off, (low, high, slack) in zip(offs, pins))
            self.assertIs(told, wanted)
            seen[told] += 1
        self.assertGreater(min(seen.values()), 40)

    def test_long_numbers(self):
        top = Fraction(EIGHTY, EIGHTY - 1)
        self.assert_plan([(-top, top, top)], -top, top,
                         ([(-top, top)], [(-top, top)], [([1], [-1], top), ([-1], [1], top)]))

    def test_what_is_told_is_the_askers_own(self):
        for count in range(1, 5):
            check_own(self, pin_plan, told_pairs(*[(0, 1, 2)] * count), pair(-1), pair(1))


class FirstApartTest(unittest.TestCase):
    def test_written_out(self):
        pins = [(0, 9, 1)] * 3
        for offs, wanted in (([0, 0, 0], None), ([0, 2, 1], None), ([0, 3, 1], (0, 1)), ([0, 2, 3], (0, 2)),
                             ([1, 0, 3], (1, 2)), ([0, 3, 3], (0, 1)), ([3, 0, 3], (0, 1)), ([2, 0, 4], (1, 2))):
            told = apart(pins, offs)
            self.assertEqual(told, wanted, offs)
            self.assertIsInstance(told, (tuple, type(None)))

    def test_just_met_and_just_not_met(self):
        half = Fraction(1, 2)
        self.assertIs(apart([(0, 9, half), (0, 9, 1)], [2, half + 3]), None)
        self.assertEqual(apart([(0, 9, half), (0, 9, 1)], [2, half + 3 + TINY]), (0, 1))
        self.assertIs(apart([(0, 9, half), (0, 9, 1)], [half + 3, 2]), None)
        self.assertEqual(apart([(0, 9, half), (0, 9, 1)], [half + 3 + TINY, 2]), (0, 1))

    def test_one_alone(self):
        # The shift is from 0 to 5, and the slack 1.
        for off, wanted in ((-1, None), (-1 - TINY, (0, 0)), (6, None), (6 + TINY, (0, 0)), (3, None)):
            self.assertEqual(apart([(-9, 9, 1)], [off], 0, 5), wanted)
        for k in range(4):
            offs = [3] * 4
            offs[k] = 7
            # What has none alone has none beside the first one either, and this comes ahead.
            self.assertEqual(apart([(0, 9, 1)] * 4, offs, 0, 5), (0, k))
            self.assertEqual(apart([(0, 9, 9)] * k + [(0, 9, 1)] * (4 - k), [7] * 4, 0, 5), (0, k))

    def test_one_alone_comes_ahead_of_two(self):
        # (0, 0) is due ahead of (0, 1).
        self.assertEqual(apart([(0, 9, 1)] * 2, [9, 0], 0, 5), (0, 0))
        # (0, 1) is due ahead of (1, 1).
        self.assertEqual(apart([(0, 9, 1)] * 2, [0, 9], 0, 5), (0, 1))
        self.assertEqual(apart([(0, 9, 1)] * 3, [4, 0, 9], 0, 5), (0, 1))
        # But where they go together by themselves, the second alone has no shift all the same.
        self.assertEqual(apart([(0, 9, 9), (0, 9, 1)], [0, 9], 0, 5), (0, 1))

    def test_in_order_as_tuples_are(self):
        # 0 and 3 are apart, and so are 1 and 2.
        self.assertEqual(apart([(0, 9, 3), (0, 9, 1), (0, 9, 1), (0, 9, 0)], [0, 1, 4, 4]), (0, 3))
        self.assertEqual(apart([(0, 9, 4), (0, 9, 1), (0, 9, 1), (0, 9, 0)], [0, 1, 4, 4]), (1, 2))
        self.assertEqual(apart([(0, 9, 4), (0, 9, 3), (0, 9, 0), (0, 9, 0)], [0, 1, 3, 4]), (2, 3))

    def test_offs_out_of_bounds(self):
        self.assertIs(apart([(0, 1, 1)] * 2, [5, 6]), None)
        self.assertIs(apart([(0, 1, 1)] * 2, [-5, -6]), None)
        self.assertEqual(apart([(0, 1, 1)] * 2, [5, 8]), (0, 1))
        self.assertEqual(apart([(0, 1, 1)] * 2, [12, 5]), (0, 0))

    def test_slack_0(self):
        self.assertIs(apart([(0, 9, 0)] * 4, [2] * 4), None)
        self.assertEqual(apart([(0, 9, 0)] * 4, [2, 2, 2, 2 + TINY]), (0, 3))
        self.assertIs(apart([(2, 2, 0)], [2], 2, 2), None)
        self.assertEqual(apart([(2, 2, 0)], [2], 3, 3), (0, 0))

    def test_least_that_is_greatest(self):
        self.assertIs(apart([(0, 9, 1)] * 2, [2, 4], 3, 3), None)
        self.assertEqual(apart([(0, 9, 1)] * 2, [2, 4 + TINY], 3, 3), (0, 1))
        self.assertEqual(apart([(0, 9, 2)] * 2, [2, 5 + TINY], 3, 3), (0, 1))

    def test_each_two_tell_of_all(self):
        source = random.Random(21)
        seen = {}
        for again in range(300):
            pins, least, greatest = drawn_pins(source, (1, 1, 1, 40)[again % 4], 1 + again % 4)
            if source.randrange(2):
                pins = [(low, high, slack + 5) for low, high, slack in pins]
            draw = drawing(source, 1)
            offs = [source.choice((low, high, draw())) for low, high, slack in pins]
            told = apart(pins, offs, least, greatest)
            whole = choice_for(plan_of(pins, least, greatest), pairs(*offs))
            self.assertEqual(told is None, whole[0] == "choice")
            self.assertEqual(told is None, shifts(pins, offs, least, greatest) is not None)
            self.assertEqual(told, self.first_by_search(pins, offs, least, greatest))
            seen[told] = seen.get(told, 0) + 1
        self.assertGreater(seen[None], 40)
        self.assertTrue({(0, 0), (0, 1), (0, 2), (0, 3), (1, 2)} <= set(seen), seen)

    def first_by_search(self, pins, offs, least, greatest):
        for i, j in itertools.combinations_with_replacement(range(len(pins)), 2):
            some = sorted({i, j})
            if shifts([pins[k] for k in some], [offs[k] for k in some], least, greatest) is None:
                return (i, j)
        return None

    def test_every_bound_of_the_offs(self):
        pins = [(0, 4, 1), (1, 3, Fraction(1, 2)), (-2, 2, 2)]
        for offs in itertools.product(*[(low, high) for low, high, slack in pins]):
            self.assertEqual(apart(pins, offs, 0, 2), self.first_by_search(pins, offs, 0, 2))
            self.assertEqual(apart(pins, offs, 0, 2) is None, corners(plan_of(pins, 0, 2), pairs(*offs)) != [])

    def test_long_numbers(self):
        self.assertIs(apart([(0, 1, EIGHTY)] * 2, [-EIGHTY, EIGHTY], -EIGHTY, EIGHTY), None)
        self.assertEqual(apart([(0, 1, EIGHTY - 1)] * 2, [-EIGHTY, EIGHTY], -EIGHTY, EIGHTY), (0, 1))

    def test_what_is_handed_in_stays_as_it_was(self):
        for offs in ([0, 0, 0], [0, 3, 0], [0, 0, 99]):
            check_own(self, first_apart, told_pairs(*[(0, 9, 1)] * 3), pair(-9), pair(9), pairs(*offs))


if __name__ == "__main__":
    unittest.main()

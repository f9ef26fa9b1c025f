"""Promises 2, 3, 16 and 17: whole made sets counted, and the good ones told by number and by how they begin."""

import itertools
import math
import random
import unittest
from fractions import Fraction

from shimright.choices import choice_for
from shimright.errors import NoChoice, NoNumber, ShimError, TooMany
from shimright.whole import beginning_with, good_set, how_many, number_of
from tests.helpers import (
    EIGHTY, TINY, bare, check_own, drawn_counts, drawn_plan, good_plan, no_demands, no_shims, pair, pairs, read,
    small_plan, two_shims, written,
)


def whole_sets(plan):
    """All whole made sets, in order, as lists of tops."""
    ranges = [range(math.ceil(low), math.floor(high) + 1) for low, high in read(plan[0])]
    return [list(tops) for tops in itertools.product(*ranges)]


def good_sets(plan):
    return [tops for tops in whole_sets(plan) if choice_for(plan, pairs(*tops))[0] == "choice"]


def of_sizes(*limits):
    """A plan of sizes alone: every made set is good."""
    return written((list(limits), [], []))


def triangle(count):
    # Sizes x and y from 0 on: y - x must not be below 0.
    return written(([(0, count - 1)] * 2, [], [([-1, 1], [], 0)]))


def band():
    # Sizes x, y and z from -2 to 2, a shim from -1 to 1/2: x + y + z must be just the shim.
    demands = [([1, 1, 1], [-1], 0), ([-1, -1, -1], [1], 0)]
    return written(([(-2, 2)] * 3, [(-1, Fraction(1, 2))], demands))


def narrow():
    # Made sets with a choice lie all about, but the whole ones of them only here and there: 3x - 5y is the shim.
    demands = [([3, -5], [1], 0), ([-3, 5], [-1], 0)]
    return written(([(-9, 9), (-6, 6)], [(Fraction(-1, 2), Fraction(1, 2))], demands))


def out_of_whole():
    # The second size has no whole number within its bounds.
    return of_sizes((0, 3), (Fraction(1, 3), Fraction(2, 3)))


def hopeless():
    return written(([(0, 3), (-1, 1)], [(0, 1)], [([0, 0], [1], -2)]))


def drawn_plans(source, often, most=400):
    """Plans of at most so many whole made sets."""
    told = []
    while len(told) < often:
        highest = source.choice((1, 8, 20))
        plan = drawn_plan(source, 1, drawn_counts(source, sizes=4, demands=5), lambda: source.randrange(highest))[0]
        if len(whole_sets(plan)) <= most:
            told.append(plan)
    return told


WRITTEN_OUT = (small_plan, good_plan, two_shims, no_shims, no_demands, bare, band, narrow, hopeless, out_of_whole)

TOO_MANY = (
    of_sizes((1, 20001)), of_sizes((0, 141), (0, 141)), of_sizes((0, 10 ** 70)), of_sizes((0, 3), (-EIGHTY, EIGHTY)),
    of_sizes(*[(1, 6)] * 6), written(([(1, 20001)], [(0, 1)], [([0], [1], -2)])),
)


class HowManyTest(unittest.TestCase):
    def assert_many(self, plan, good, every):
        told = how_many(plan)
        self.assertIsInstance(told, tuple)
        self.assertEqual(told, (good, every))
        self.assertTrue(all(type(number) is int for number in told))

    def test_all_some_and_none_good(self):
        self.assert_many(two_shims(), 7, 7)
        self.assert_many(small_plan(), 3, 4)
        self.assert_many(hopeless(), 0, 12)
        self.assert_many(no_shims(), 2, 3)
        self.assert_many(no_demands(), 3, 3)
        self.assert_many(bare(), 1, 1)

    def test_as_counted_one_by_one(self):
        for make in WRITTEN_OUT:
            self.assert_many(make(), len(good_sets(make())), len(whole_sets(make())))
        self.assertEqual(good_sets(narrow()), [[-5, -3], [0, 0], [5, 3]])
        self.assertGreater(len(good_sets(band())), 20)

    def test_bounds_that_are_no_whole_numbers(self):
        self.assert_many(of_sizes((Fraction(1, 2), Fraction(7, 2))), 3, 3)
        self.assert_many(of_sizes((Fraction(-7, 2), Fraction(-1, 2))), 3, 3)
        self.assert_many(of_sizes((1 - TINY, 3 + TINY)), 3, 3)
        self.assert_many(of_sizes((1 + TINY, 3 - TINY)), 1, 1)
        self.assert_many(of_sizes((-1 + TINY, 1 - TINY)), 1, 1)

    def test_bounds_below_0(self):
        self.assert_many(of_sizes((-5, -2)), 4, 4)
        self.assert_many(written(([(-5, -2)], [(0, 1)], [([1], [1], 3)])), 3, 4)

    def test_a_low_that_is_its_high(self):
        self.assert_many(of_sizes((4, 4)), 1, 1)
        self.assert_many(of_sizes((4, 4), (0, 2)), 3, 3)
        self.assert_many(of_sizes((Fraction(1, 2), Fraction(1, 2)), (0, 2)), 0, 0)

    def test_good_ones_at_the_edge(self):
        for c, good in ((-5, 3), (-5 - TINY, 2), (-5 + TINY, 3), (-4, 4), (-7, 1), (-7 - TINY, 0)):
            self.assert_many(written(([(1, 4)], [(0, 3)], [([1], [1], c)])), good, 4)

    def test_a_size_without_any_whole_number(self):
        gap = (Fraction(1, 3), Fraction(2, 3))
        wide = (-EIGHTY, EIGHTY)
        for limits in ((gap,), (gap, wide), (wide, gap), (wide, gap, wide), (gap, gap, wide), (wide,) * 5 + (gap,)):
            self.assert_many(of_sizes(*limits), 0, 0)
        self.assert_many(written(([wide, gap], [(0, 1)], [([1, 1], [1], 0)])), 0, 0)

    def test_just_twenty_thousand(self):
        self.assert_many(of_sizes((1, 20000)), 20000, 20000)
        self.assert_many(of_sizes((Fraction(1, 2), 20000 + TINY)), 20000, 20000)
        self.assert_many(of_sizes((1, 2), (1, 100), (-50, 49)), 20000, 20000)
        self.assert_many(of_sizes((7, 7), (EIGHTY - 19999, EIGHTY), (7, 7)), 20000, 20000)
        # Just where y is from x - 50 to x.
        plan = written(([(1, 100), (1, 200)], [(0, 50)], [([-1, 1], [1], 0), ([1, -1], [0], 0)]))
        self.assert_many(plan, 3825, 20000)

    def test_more_than_twenty_thousand(self):
        for plan in TOO_MANY:
            with self.assertRaises(TooMany) as caught:
                how_many(plan)
            self.assertIsInstance(caught.exception, ShimError)
            self.assertIsInstance(caught.exception, ValueError)

    def test_as_another_way_tells_it(self):
        seen = {"all": 0, "some": 0, "none": 0}
        for plan in drawn_plans(random.Random(16), 150):
            good, every = len(good_sets(plan)), len(whole_sets(plan))
            self.assert_many(plan, good, every)
            seen["none" if good == 0 else "all" if good == every else "some"] += 1
        self.assertGreater(min(seen.values()), 20)

    def test_six_sizes_three_shims_twelve_demands(self):
        source = random.Random(61)
        for again in range(3):
            plan = drawn_plan(source, 1, (6, 3, 12), lambda: source.randrange(4))[0]
            plan = (written([(0, 1), (-1, 1), (0, 2), (3, 4), (0, 1), (Fraction(-1, 2), 1)]),) + plan[1:]
            self.assert_many(plan, len(good_sets(plan)), 144)

    def test_long_numbers(self):
        top = EIGHTY // 2
        plan = written(([(top, top + 9)], [(0, 3)], [([1], [1], -top - 5)]))
        self.assert_many(plan, 8, 10)
        plan = written(([(0, 9)], [(0, Fraction(3, top))], [([Fraction(1, top)], [1], Fraction(-5, top))]))
        self.assert_many(plan, 8, 10)

    def test_long_fractions(self):
        source = random.Random(40)

        def draw():
            return Fraction(source.randrange(-10 ** 40, 10 ** 40), source.randrange(10 ** 39, 10 ** 40))

        seen = set()
        for again in range(20):
            demands = [([draw() for k in range(3)], [draw() for k in range(2)], 5 * draw()) for j in range(4)]
            plan = written(([(0, 2), (-1, 2), (-2, 0)], [(-1, draw() ** 2), (0, Fraction(1, 3))], demands))
            good = len(good_sets(plan))
            self.assert_many(plan, good, 36)
            seen.add(good)
        self.assertGreater(len(seen), 4)

    def test_what_is_handed_in_stays_as_it_was(self):
        for make in WRITTEN_OUT:
            check_own(self, how_many, make())


class GoodSetTest(unittest.TestCase):
    def assert_told(self, plan):
        """All good ones are told by their numbers, and none beyond."""
        wanted = good_sets(plan)
        for number, tops in enumerate(wanted):
            self.assertEqual(good_set(plan, number), pairs(*tops))
        for number in (-1, -2, -len(wanted), -len(wanted) - 1, len(wanted), len(wanted) + 1, 10 ** 79):
            if number != 0 or not wanted:
                with self.assertRaises(NoNumber):
                    good_set(plan, number)
        return len(wanted)

    def test_written_out(self):
        self.assertEqual([good_set(small_plan(), number) for number in range(3)], [pairs(2), pairs(3), pairs(4)])
        self.assertEqual([good_set(triangle(3), number) for number in range(6)],
                         [pairs(0, 0), pairs(0, 1), pairs(0, 2), pairs(1, 1), pairs(1, 2), pairs(2, 2)])
        self.assertIsInstance(good_set(bare(), 0), list)

    def test_each_in_order(self):
        for make in WRITTEN_OUT:
            self.assert_told(make())
        self.assert_told(of_sizes((-3, 2), (-1, 1), (Fraction(-5, 2), 0)))

    def test_in_order_as_lists_of_tops_are(self):
        # Not as texts are: -2 comes ahead of -1, and 9 ahead of 10.
        plan = of_sizes((-2, 0), (9, 11))
        told = [read(good_set(plan, number)) for number in range(9)]
        self.assertEqual(told, [[x, y] for x in (-2, -1, 0) for y in (9, 10, 11)])

    def test_a_number_that_none_has(self):
        for plan, number in ((small_plan(), 3), (small_plan(), -1), (hopeless(), 0), (hopeless(), -1),
                             (out_of_whole(), 0), (bare(), 1), (bare(), -1), (no_shims(), 2)):
            with self.assertRaises(NoNumber):
                good_set(plan, number)

    def test_too_many_is_refused_first(self):
        for plan in TOO_MANY:
            for number in (0, 1, -1, 10 ** 79):
                with self.assertRaises(TooMany):
                    good_set(plan, number)

    def test_just_twenty_thousand(self):
        for number in (0, 1, 9999, 19998, 19999):
            self.assertEqual(good_set(of_sizes((1, 20000)), number), pairs(number + 1))
            self.assertEqual(good_set(of_sizes((0, 99), (0, 1), (0, 99)), number),
                             pairs(number // 200, number // 100 % 2, number % 100))

    def test_as_another_way_tells_it(self):
        told = sum(self.assert_told(plan) for plan in drawn_plans(random.Random(17), 60, 100))
        self.assertGreater(told, 300)

    def test_what_is_told_is_the_askers_own(self):
        for plan, number in ((small_plan(), 1), (triangle(3), 4), (bare(), 0), (band(), 7)):
            check_own(self, good_set, plan, number)


class NumberOfTest(unittest.TestCase):
    def assert_refused(self, plan, *made):
        with self.assertRaises(NoChoice):
            number_of(plan, pairs(*made))

    def test_written_out(self):
        for number, made in enumerate(([0, 0], [0, 1], [0, 2], [1, 1], [1, 2], [2, 2])):
            told = number_of(triangle(3), pairs(*made))
            self.assertIs(type(told), int)
            self.assertEqual(told, number)

    def test_the_way_back(self):
        for plan in [make() for make in WRITTEN_OUT] + drawn_plans(random.Random(71), 40, 60):
            good = good_sets(plan)
            for number, tops in enumerate(good):
                self.assertEqual(number_of(plan, pairs(*tops)), number)
                self.assertEqual(number_of(plan, good_set(plan, number)), number)
            for tops in whole_sets(plan):
                if tops not in good:
                    self.assert_refused(plan, *tops)

    def test_out_of_bounds(self):
        for made in (0, 5, -3, 10 ** 79):
            self.assert_refused(of_sizes((1, 4)), made)
        # Its rows let a choice by, yet it is out of bounds.
        self.assertEqual(choice_for(small_plan(), pairs(5))[0], "choice")
        self.assert_refused(small_plan(), 5)
        for made in ((3, 0), (0, 3), (-1, 2), (0, -1)):
            self.assert_refused(triangle(3), *made)
        # No whole number is within these bounds.
        self.assert_refused(out_of_whole(), 0, 0)
        self.assert_refused(out_of_whole(), 0, 1)

    def test_no_whole_numbers(self):
        for made in (Fraction(5, 2), 2 + TINY, 3 - TINY):
            self.assert_refused(small_plan(), made)
        # Its tops by themselves are those of a good one.
        self.assert_refused(triangle(3), 1, Fraction(2, 3))
        self.assert_refused(triangle(3), Fraction(1, 2), 1)
        self.assert_refused(out_of_whole(), 0, Fraction(1, 2))

    def test_of_another_length(self):
        self.assert_refused(small_plan())
        self.assert_refused(small_plan(), 3, 3)
        self.assert_refused(bare())
        self.assert_refused(bare(), 0, 0)
        for made in ((), (0,), (0, 0, 0), (2,), [0] * 1500):
            self.assert_refused(triangle(3), *made)
        # Just one good one begins so.
        self.assert_refused(of_sizes((0, 3), (1, 1)), 2)

    def test_with_no_choice(self):
        self.assert_refused(small_plan(), 1)
        self.assert_refused(triangle(3), 1, 0)
        self.assert_refused(hopeless(), 0, 0)

    def test_too_many_is_refused_first(self):
        for plan in TOO_MANY:
            for made in ([], [pair(1)] * len(plan[0]), [pair(TINY)] * len(plan[0]), [pair(-7)], [pair(3)] * 9):
                with self.assertRaises(TooMany):
                    number_of(plan, made)

    def test_just_twenty_thousand(self):
        for number in (0, 1, 9999, 19998, 19999):
            self.assertEqual(number_of(of_sizes((1, 20000)), pairs(number + 1)), number)
            self.assertEqual(number_of(of_sizes((0, 99), (0, 1), (0, 99)),
                                       pairs(number // 200, number // 100 % 2, number % 100)), number)
        self.assert_refused(of_sizes((1, 20000)), 20001)

    def test_what_is_handed_in_stays_as_it_was(self):
        for plan, made in ((small_plan(), pairs(3)), (triangle(3), pairs(1, 2)), (band(), pairs(0, 0, 0))):
            check_own(self, number_of, plan, made)


class BeginningWithTest(unittest.TestCase):
    def test_written_out(self):
        for tops, wanted in (([], 6), ([0], 3), ([1], 2), ([2], 1), ([3], 0), ([-1], 0), ([1, 1], 1), ([1, 0], 0),
                             ([1, 2], 1), ([1, 3], 0), ([-1, 0], 0), ([10 ** 79], 0)):
            told = beginning_with(triangle(3), tops)
            self.assertIs(type(told), int)
            self.assertEqual(told, wanted, tops)

    def test_no_tops_are_all_good_ones(self):
        for make in WRITTEN_OUT:
            self.assertEqual(beginning_with(make(), []), how_many(make())[0])

    def test_one_by_one(self):
        for plan in [make() for make in WRITTEN_OUT] + drawn_plans(random.Random(72), 40):
            good = good_sets(plan)
            begun = [tops[:k] for tops in whole_sets(plan) for k in range(len(tops) + 1)]
            for tops in begun[:200] + begun[-50:]:
                wanted = sum(made[:len(tops)] == tops for made in good)
                self.assertEqual(beginning_with(plan, tops), wanted, (plan, tops))

    def test_sums_over_a_next_top(self):
        for plan in (band(), narrow(), triangle(4), no_demands()):
            for begun in [[]] + [tops[:1] for tops in whole_sets(plan)]:
                sums = sum(beginning_with(plan, begun + [top]) for top in range(-12, 13))
                self.assertEqual(beginning_with(plan, begun), sums)

    def test_tops_that_no_made_set_begins_with(self):
        # Two wrong ones do not make a right one.
        for tops in ([0], [5], [-7], [10 ** 79]):
            self.assertEqual(beginning_with(small_plan(), tops), 0)
        for tops in ([0, -1], [-1, -1], [9, 9], [-1, 9], [9, -1], [-5, 2], [2, -5]):
            self.assertEqual(beginning_with(triangle(3), tops), 0)
        for tops in ([], [0], [0, 0], [0, 1], [4, 0]):
            self.assertEqual(beginning_with(out_of_whole(), tops), 0)
        # Its rows let a choice by, yet it is out of bounds.
        self.assertEqual(beginning_with(small_plan(), [5]), 0)

    def test_as_many_as_sizes(self):
        for tops in whole_sets(band()):
            wanted = int(choice_for(band(), pairs(*tops))[0] == "choice")
            self.assertEqual(beginning_with(band(), tops), wanted)

    def test_more_tops_than_sizes(self):
        for tops in ([1, 1, 1], [0, 0, 0], [2, 2, 2, 2]):
            self.assertEqual(beginning_with(triangle(3), tops), 0)

    def test_too_many_is_refused_first(self):
        for plan in TOO_MANY:
            for tops in ([], [1], [-1], [10 ** 79], [2] * len(plan[0]), [-9] * len(plan[0])):
                with self.assertRaises(TooMany):
                    beginning_with(plan, tops)

    def test_just_twenty_thousand(self):
        plan = of_sizes((0, 99), (0, 1), (0, 99))
        for tops, wanted in (([], 20000), ([7], 200), ([7, 1], 100), ([7, 1, 99], 1), ([7, 1, 100], 0), ([7, 2], 0)):
            self.assertEqual(beginning_with(plan, tops), wanted)

    def test_what_is_handed_in_stays_as_it_was(self):
        for plan, tops in ((small_plan(), [3]), (triangle(3), []), (triangle(3), [1]), (band(), [0, 0])):
            check_own(self, beginning_with, plan, tops)


if __name__ == "__main__":
    unittest.main()

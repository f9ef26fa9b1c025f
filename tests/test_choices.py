"""Promises 2, 3, 7 and 8: the rows that a made set asks, a choice for it, and weights that show that there is none."""

import random
import unittest
from fractions import Fraction

from shimright.choices import choice_for, rows_of, weights_bar
from shimright.plans import fits
from tests.helpers import (
    EIGHTY, ONE, TINY, ZERO, asked_rows, bare, bounds, check_own, corners, drawing, drawn_counts, drawn_plan,
    good_plan, holds, is_fraction, lists_in, no_demands, no_shims, pair, pairs, read, small_plan, two_shims,
    value, written,
)


def bars(plan, made, weights):
    """Whether weights bar, in numbers, in the words of promise 7."""
    rows, taken = asked_rows(plan, made), read(weights)
    if len(taken) != len(rows) or any(q < 0 for q in taken):
        return False
    sums = [sum(q * row[0][k] for q, row in zip(taken, rows)) for k in range(len(plan[1]))]
    return not any(sums) and sum(q * row[1] for q, row in zip(taken, rows)) < 0


def many_rows(source, margin):
    """Three shims and twelve demands with no b of 0: far more than two thousand rule rows come of them."""
    draw = drawing(source, 1)

    def factor(sign):
        return sign * (abs(draw()) + Fraction(source.randrange(1, 99), 97))

    demands = []
    for k in range(12):
        signs = [1 if k >> j & 1 else -1 for j in range(2)] + [1 if k % 2 else -1]
        demands.append(([draw() for j in range(6)], [factor(sign) for sign in signs], margin()))
    return written(([(-1, 1)] * 6, [(-5, 5)] * 3, demands))


def rule_row_count(plan):
    """How many rows come of taking out all three shims, none of them passed over; the last ones are only counted."""
    told = [b for b, d in asked_rows(plan, [ZERO] * len(plan[0]))]
    for k in (2, 1):
        lows, highs = [b for b in told if b[k] > 0], [b for b in told if b[k] < 0]
        told = [b for b in told if b[k] == 0]
        told += [[-high[k] * x + low[k] * y for x, y in zip(low, high)] for low in lows for high in highs]
    return len([b for b in told if b[0] > 0]) * len([b for b in told if b[0] < 0])


class RowsTest(unittest.TestCase):
    def test_written_out(self):
        wanted = [([1, 0], 0), ([-1, Fraction(1, 3)], Fraction(5, 2)),
                  ([1, 0], 0), ([-1, 0], 6), ([0, 1], 3), ([0, -1], 3)]
        self.assertEqual(rows_of(good_plan(), pairs(3, 1)), written(wanted))
        self.assertEqual(rows_of(small_plan(), pairs(3)), written([([1], -2), ([1], 0), ([-1], 3)]))

    def test_lows_and_highs_below_0(self):
        plan = written(([(0, 1)], [(-7, Fraction(-1, 2)), (Fraction(2, 3), 9), (4, 4)], []))
        wanted = [([1, 0, 0], 7), ([-1, 0, 0], Fraction(-1, 2)), ([0, 1, 0], Fraction(-2, 3)), ([0, -1, 0], 9),
                  ([0, 0, 1], -4), ([0, 0, -1], 4)]
        self.assertEqual(rows_of(plan, pairs(0)), written(wanted))

    def test_out_of_bounds_too(self):
        self.assertEqual(rows_of(small_plan(), pairs(-100)), written([([1], -105), ([1], 0), ([-1], 3)]))
        self.assertEqual(rows_of(small_plan(), pairs(Fraction(99, 2))),
                         written([([1], Fraction(89, 2)), ([1], 0), ([-1], 3)]))

    def test_no_shims_and_no_demands(self):
        self.assertEqual(rows_of(no_shims(), pairs(3)), written([([], 2)]))
        self.assertEqual(rows_of(no_demands(), pairs(1, 3)), written([([1], 1), ([-1], 1)]))
        self.assertEqual(rows_of(bare(), pairs(0)), [])

    def test_demands_alike_and_of_nothing_stay(self):
        demands = [([1], [1], -5)] * 2 + [([0], [0], 4), ([0], [1], 0)]
        plan = written(([(1, 4)], [(0, 3)], demands))
        self.assertEqual(rows_of(plan, pairs(1)), written([([1], -4)] * 2 + [([0], 4), ([1], 0), ([1], 0), ([-1], 3)]))

    def test_many(self):
        source = random.Random(7)
        for figures in (1, 1, 1, 2, 5, 40):
            for again in range(10):
                counts = drawn_counts(source)
                plan = drawn_plan(source, figures, counts, lambda: source.randrange(-3, 9))[0]
                made = [pair(drawing(source, figures)()) for k in range(counts[0])]
                told = rows_of(plan, made)
                self.assertEqual(told, written(asked_rows(plan, made)))
                self.assertEqual(len(told), counts[2] + 2 * counts[1])
                self.assertEqual({type(row) for row in told} | {tuple}, {tuple})
                self.assertTrue(all(is_fraction(q) for b, d in told for q in b + [d]))

    def test_no_list_is_the_plans_own_or_told_twice(self):
        for plan, made in ((good_plan(), pairs(3, 1)), (no_shims(), pairs(1)), (no_demands(), pairs(1, 3)),
                           (two_shims(), pairs(9))):
            check_own(self, rows_of, plan, made)

    def test_no_list_is_told_twice_where_the_plan_has_one_twice(self):
        shared = [ONE]
        told = rows_of((bounds((0, 1)), bounds((0, 1)), [(shared, shared, ONE)] * 3), pairs(1))
        self.assertEqual(len({id(part) for part in lists_in(told)} | {id(shared)}), 1 + 5 + 1)


class ChoiceTest(unittest.TestCase):
    def check(self, plan, made):
        """Which of both is told; it is checked that it shows itself, and that the other one is not to be had."""
        told = choice_for(plan, made)
        self.assertIsInstance(told, tuple)
        self.assertEqual(len(told), 2)
        self.assertIn(told[0], ("choice", "bars"))
        self.assertIsInstance(told[1], list)
        self.assertTrue(all(is_fraction(q) and q == pair(Fraction(*q)) for q in told[1]), told)
        if told[0] == "choice":
            self.assertEqual(len(told[1]), len(plan[1]))
            self.assertTrue(all(holds(row, read(told[1])) for row in asked_rows(plan, made)), (plan, made))
        else:
            self.assertTrue(bars(plan, made, told[1]), (plan, made, told))
            self.assertIs(weights_bar(plan, made, told[1]), True)
        return told[0]

    def assert_kind(self, wanted, plan, *made):
        self.assertEqual(self.check(plan, pairs(*made)), wanted, (plan, made))

    def test_written_out(self):
        self.assert_kind("choice", small_plan(), 3)
        self.assert_kind("bars", small_plan(), 1)
        self.assertEqual(choice_for(small_plan(), pairs(2)), ("choice", pairs(3)))
        self.assert_kind("choice", good_plan(), 3, 1)

    def test_just_one_choice_and_just_none(self):
        self.assert_kind("choice", small_plan(), 2)
        self.assert_kind("choice", small_plan(), 2 + TINY)
        self.assert_kind("bars", small_plan(), 2 - TINY)
        # s + t = 6 at the highs alone; s - t at once from both sides.
        plan = written(([(0, 9)], [(0, 2), (-1, 4)], [([1], [1, 1], -6), ([0], [1, -2], 6)]))
        self.assertEqual(choice_for(plan, pairs(0)), ("choice", pairs(2, 4)))
        self.assert_kind("bars", plan, -TINY)
        plan = written(([(0, 9)], [(0, 9)] * 3, [([1], [1, -1, 0], 0), ([-1], [-1, 1, 0], 0), ([0], [0, 1, -1], -3),
                                                 ([0], [0, -1, 1], 3), ([0], [1, 1, 1], -24), ([0], [-1, 0, 0], 9)]))
        self.assertEqual(choice_for(plan, pairs(0)), ("choice", pairs(9, 9, 6)))
        self.assert_kind("bars", plan, TINY)
        self.assert_kind("bars", plan, -TINY)

    def test_out_of_bounds_too(self):
        self.assert_kind("choice", small_plan(), 400)
        self.assert_kind("bars", small_plan(), -400)
        self.assert_kind("choice", no_demands(), 99, -99)

    def test_bounds_that_are_one_number(self):
        plan = written(([(1, 1)], [(Fraction(1, 3), Fraction(1, 3))], [([1], [-3], 0)]))
        self.assertEqual(choice_for(plan, pairs(1)), ("choice", pairs(Fraction(1, 3))))
        self.assert_kind("bars", plan, 1 - TINY)
        self.assert_kind("choice", plan, 1 + TINY)

    def test_no_shims(self):
        self.assertEqual(choice_for(no_shims(), pairs(1)), ("choice", []))
        self.assert_kind("bars", no_shims(), 1 - TINY)
        self.assertEqual(choice_for(bare(), pairs(0)), ("choice", []))

    def test_no_demands(self):
        self.assert_kind("choice", no_demands(), 1, 3)
        for low, high in ((-3, -2), (2, 3), (0, 0), (Fraction(-1, 7), Fraction(1, 7))):
            self.assert_kind("choice", written(([(0, 1)], [(low, high)] * 3, [])), 1)

    def test_a_demand_of_c_alone(self):
        for c, wanted in ((0, "choice"), (TINY, "choice"), (-TINY, "bars")):
            self.assert_kind(wanted, written(([(0, 1)], [(0, 1)] * 2, [([0], [0, 0], c)])), 1)

    def test_demands_at_odds_with_one_another_alone(self):
        # s - t must be at least 1, and at most 0, which no bound has to do with.
        plan = written(([(0, 1)], [(-99, 99), (-99, 99)], [([0], [1, -1], -1), ([0], [-2, 2], 0)]))
        self.assert_kind("bars", plan, 0)
        told = read(choice_for(plan, pairs(0))[1])
        self.assertEqual((told[0], told[2:]), (2 * told[1], [0] * 4))

    def test_which_of_both_is_as_another_way_tells_it(self):
        source = random.Random(8)
        seen = {"choice": 0, "bars": 0}
        for again in range(300):
            figures = (1, 1, 1, 2, 40)[again % 5]
            counts = drawn_counts(source, demands=12 if again % 10 == 0 else 6)
            plan, made, choice = drawn_plan(source, figures, counts, lambda: source.choice((0, 0, 1, -1, -2, -5)))
            kind = self.check(plan, made)
            seen[kind] += 1
            self.assertEqual(kind, "choice" if corners(plan, made) else "bars", (plan, made))
        self.assertGreater(min(seen.values()), 60)

    def test_where_there_is_one_by_the_way_it_was_drawn(self):
        source = random.Random(9)
        for again in range(200):
            figures = (1, 2, 8, 40)[again % 4]
            plan, made, choice = drawn_plan(source, figures, drawn_counts(source), lambda: 0)
            self.assertTrue(fits(plan, made, choice))
            self.assertEqual(self.check(plan, made), "choice")
            self.assertIs(fits(plan, made, choice_for(plan, made)[1]), True)

    def test_plans_of_many_rows(self):
        source = random.Random(10)
        seen = {"choice": 0, "bars": 0}
        for again in range(24):
            lowest = source.choice((-8, 0, 8, 16))
            plan = many_rows(source, lambda: source.randrange(lowest, lowest + 12))
            self.assertGreater(rule_row_count(plan), 4000)
            kind = self.check(plan, [pair(Fraction(source.randrange(-4, 5), 4)) for k in range(6)])
            seen[kind] += 1
        self.assertGreater(min(seen.values()), 4)

    def test_eighty_figures(self):
        plan = ([((-EIGHTY, 1), (EIGHTY, 1))], [(ZERO, (1, EIGHTY))], [([(1, EIGHTY)], [(EIGHTY, 1)], (-1, 1))])
        self.assertEqual(choice_for(plan, [ZERO]), ("choice", [(1, EIGHTY)]))
        self.assertEqual(self.check(plan, [(-1, EIGHTY)]), "bars")
        self.assertEqual(self.check(plan, [(1, EIGHTY)]), "choice")

    def test_many_ties(self):
        # Rows that meet in one corner many at a time, and rows told twice.
        demands = [([0], [x, y, z], 0) for x in (-1, 1) for y in (-1, 1) for z in (-1, 1)]
        plan = written(([(0, 1)], [(0, 1)] * 3, demands + [([1], [-1, -1, -1], 0)] * 4))
        self.assertEqual(choice_for(plan, pairs(0)), ("choice", pairs(0, 0, 0)))
        self.assert_kind("bars", plan, -1)
        plan = written(([(0, 1)], [(-1, 1)] * 3, demands + [([1], [1, 2, -1], -1)] * 4))
        self.assertEqual(choice_for(plan, pairs(1)), ("choice", pairs(0, 0, 0)))
        self.assert_kind("bars", plan, 0)

    def test_somewhat_more_than_is_promised(self):
        source = random.Random(11)
        for again in range(5):
            plan, made, choice = drawn_plan(source, 1, (8, 5, 20), lambda: 0)
            self.assertEqual(self.check(plan, made), "choice")
            self.check(plan, [pair(q + 3) for q in read(made)])

    def test_what_is_told_is_the_askers_own(self):
        for plan, made in ((good_plan(), pairs(3, 1)), (small_plan(), pairs(1)), (small_plan(), pairs(2)),
                           (no_shims(), pairs(1)), (no_shims(), pairs(0)), (two_shims(), pairs(99))):
            check_own(self, choice_for, plan, made)


class WeightsTest(unittest.TestCase):
    def assert_bars(self, wanted, plan, made, weights):
        self.assertIs(weights_bar(plan, pairs(*made), pairs(*weights)), wanted, (plan, made, weights))

    def test_written_out(self):
        # The rows: s + x - 5, s, 3 - s.
        self.assert_bars(True, small_plan(), [1], [1, 0, 1])
        self.assert_bars(True, small_plan(), [1], [Fraction(2, 7), 0, Fraction(2, 7)])
        self.assert_bars(True, small_plan(), [1], [7, 0, 7])
        self.assert_bars(True, small_plan(), [-50], [7, 2, 9])
        self.assert_bars(False, small_plan(), [3], [1, 0, 1])

    def test_sums_that_are_not_0_at_some_shim(self):
        self.assert_bars(False, small_plan(), [1], [1, 0, 0])
        self.assert_bars(False, small_plan(), [1], [1, 0, 1 + TINY])
        self.assert_bars(False, small_plan(), [1], [1, TINY, 1])
        self.assert_bars(False, small_plan(), [1], [1, 0, 1 - TINY])
        plan = written(([(0, 1)], [(0, 1)] * 3, [([0], [1, 1, 1], -4)]))
        self.assert_bars(True, plan, [0], [1, 0, 1, 0, 1, 0, 1])
        for wrong in ([1, 0, 0, 0, 1, 0, 1], [1, 0, 1, 0, 0, 0, 1], [1, 0, 1, 0, 1, 0, 0], [1, 1, 1, 0, 1, 0, 1],
                      [1, 0, 1, 1, 1, 0, 1], [1, 0, 1, 0, 1, 1, 1], [1, 0, 2, 1, 0, 0, 1]):
            self.assert_bars(False, plan, [0], wrong)

    def test_ds_that_come_to_just_0(self):
        self.assert_bars(False, small_plan(), [2], [1, 0, 1])
        self.assert_bars(True, small_plan(), [2 - TINY], [1, 0, 1])
        self.assert_bars(False, small_plan(), [2 + TINY], [1, 0, 1])
        self.assert_bars(False, small_plan(), [1], [0, 0, 0])
        self.assert_bars(False, written(([(0, 1)], [(2, 2)], [])), [0], [1, 1])

    def test_one_below_0(self):
        self.assert_bars(False, small_plan(), [9], [-1, 0, -1])
        self.assert_bars(False, small_plan(), [3], [0, -1, -1])
        self.assert_bars(False, small_plan(), [1], [1, -TINY, 1 - TINY])
        self.assert_bars(False, no_shims(), [2], [-1])
        # Taken below 0 times, the first of both would bar.
        plan = written(([(0, 9)], [], [([1], [], 0), ([0], [], 0)]))
        for weights in ([-1, 0], [-1, 1], [-TINY, 99]):
            self.assert_bars(False, plan, [5], weights)

    def test_another_length(self):
        for wrong in ([], [1], [1, 0], [1, 1], [1, 0, 1, 0], [1, 0, 1, 1], [0, 1, 0, 1], [1, 0, 1] * 2, [1] * 1999):
            self.assert_bars(False, small_plan(), [1], wrong)
        self.assert_bars(True, no_shims(), [0], [1])
        self.assert_bars(False, no_shims(), [0], [1, 0])
        self.assert_bars(False, no_shims(), [0], [1, 1])
        self.assert_bars(False, no_shims(), [0], [])

    def test_a_list_of_another_length_is_no_made_set(self):
        for made in ([], [1, 1]):
            self.assert_bars(False, small_plan(), made, [1, 0, 1])

    def test_no_weights_at_all(self):
        self.assert_bars(False, bare(), [0], [])
        self.assert_bars(False, bare(), [0], [1])
        self.assert_bars(False, no_demands(), [1, 3], [])

    def test_no_shims(self):
        self.assert_bars(True, no_shims(), [0], [TINY])
        self.assert_bars(False, no_shims(), [1], [1])
        self.assert_bars(False, no_shims(), [0], [0])

    def test_out_of_bounds_too(self):
        self.assert_bars(True, small_plan(), [-99], [1, 0, 1])
        self.assert_bars(False, small_plan(), [99], [1, 0, 1])

    def test_none_bar_where_there_is_a_choice(self):
        source = random.Random(12)
        barred = 0
        for again in range(400):
            plan, made, choice = drawn_plan(source, 1, (1, again % 3, 1 + again % 3), lambda: source.randrange(-3, 1))
            count = len(plan[2]) + 2 * len(plan[1])
            weights = choice_for(plan, made)[1] if again % 2 else []
            weights = (weights + pairs(*[source.randrange(3) for k in range(count)]))[:count]
            told = weights_bar(plan, made, weights)
            self.assertIs(told, bars(plan, made, weights))
            if told:
                barred += 1
                self.assertEqual(corners(plan, made), [])
                self.assertEqual(choice_for(plan, made)[0], "bars")
        self.assertGreater(barred, 40)

    def test_weights_made_by_others(self):
        # Every whole weight up to 2, for made sets with and without a choice.
        for made in (0, 1, 2, 3):
            for k in range(27):
                weights = [k // 9, k // 3 % 3, k % 3]
                told = weights_bar(small_plan(), pairs(made), pairs(*weights))
                self.assertIs(told, bars(small_plan(), pairs(made), pairs(*weights)))
                self.assertFalse(told and made >= 2)

    def test_what_was_told_bars_at_any_length(self):
        source = random.Random(13)
        plan, made, choice = drawn_plan(source, 80, (6, 3, 12), lambda: -10 ** 85)
        told = choice_for(plan, made)
        self.assertEqual(told[0], "bars")
        self.assertIs(weights_bar(plan, made, told[1]), True)
        told[1][0] = pair(value(told[1][0]) + TINY)
        self.assertIs(weights_bar(plan, made, told[1]), bars(plan, made, told[1]))

    def test_what_is_handed_in_stays_as_it_was(self):
        for weights in (pairs(1, 0, 1), pairs(1, 0, 0), pairs(-1, 0, 1), pairs(1, 0, 1, 0), []):
            check_own(self, weights_bar, small_plan(), pairs(1), weights)


if __name__ == "__main__":
    unittest.main()

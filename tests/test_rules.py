"""Promises 2, 9, 10 and 11: the rule of a plan, and the choice a made set comes to by it."""

import copy
import random
import unittest
from fractions import Fraction

from shimright.errors import NoChoice, NoNumber, ShimError
from shimright.plans import fits
from shimright.rules import chosen_by, rule_of
from tests.helpers import (
    EIGHTY, ONE, TINY, ZERO, asked_rows, bare, bounds, check_own, corners, drawing, drawn_counts, drawn_plan,
    good_plan, is_fraction, lists_in, no_demands, no_shims, pair, pairs, read, small_plan, two_shims, written,
)

MOST_ROWS = 400


def put_on(rows):
    told = []
    for row in rows:
        if row not in told and not (row[2] >= 0 and not any(row[0] + row[1])):
            told.append(row)
    return told


def wanted_rule(plan):
    """The rule in numbers, in the words of promises 9 and 10, or None where it is too long to be made so."""
    sizes, shims, demands = read(plan)
    bound_rows = asked_rows((plan[0], plan[1], []), [ZERO] * len(sizes))
    rows = put_on(demands + [([Fraction(0)] * len(sizes), b, d) for b, d in bound_rows])
    steps = []
    for k in reversed(range(len(shims))):
        lows = [row for row in rows if row[1][k] > 0]
        highs = [row for row in rows if row[1][k] < 0]
        told_on = [row for row in rows if row[1][k] == 0]
        if len(lows) * len(highs) > MOST_ROWS:
            return None
        for low in lows:
            for high in highs:
                p, q = -high[1][k], low[1][k]
                told_on.append(([p * x + q * y for x, y in zip(low[0], high[0])],
                                [p * x + q * y for x, y in zip(low[1], high[1])], p * low[2] + q * high[2]))
        steps.insert(0, (lows, highs))
        rows = put_on(told_on)
    return steps, rows


class RuleTest(unittest.TestCase):
    def assert_rule(self, plan, steps, rows):
        self.assertEqual(rule_of(plan), written((steps, rows)))

    def test_written_out(self):
        self.assert_rule(small_plan(), [([([1], [1], -5), ([0], [1], 0)], [([0], [-1], 3)])], [([1], [0], -2)])

    def test_steps_from_the_first_shim_on(self):
        # Shims s and t of which only t is asked for anything but its bounds.
        plan = written(([(0, 1)], [(2, 3), (5, 7)], [([1], [0, 2], -9)]))
        step_s = ([([0], [1, 0], -2)], [([0], [-1, 0], 3)])
        step_t = ([([1], [0, 2], -9), ([0], [0, 1], -5)], [([0], [0, -1], 7)])
        self.assert_rule(plan, [step_s, step_t], [([1], [0, 0], 5)])

    def test_rows_are_told_on_in_order(self):
        # First the last shim, t: s stays, behind it low by low what comes of two lows and three highs.
        plan = written(([(0, 1)], [(0, 1), (0, 9)], [
            ([1], [1, 2], -1), ([2], [0, -1], 4), ([3], [1, 0], 5), ([4], [-1, -3], 6),
        ]))
        lows = [([1], [1, 2], -1), ([0], [0, 1], 0)]
        highs = [([2], [0, -1], 4), ([4], [-1, -3], 6), ([0], [0, -1], 9)]
        told_on = [
            ([3], [1, 0], 5), ([0], [1, 0], 0), ([0], [-1, 0], 1),
            ([5], [1, 0], 7), ([11], [1, 0], 9), ([1], [1, 0], 17), ([2], [0, 0], 4), ([4], [-1, 0], 6),
        ]
        step = ([row for row in told_on if row[1][0] > 0], [row for row in told_on if row[1][0] < 0])
        rows = [([2], [0, 0], 4), ([3], [0, 0], 6), ([7], [0, 0], 11), ([4], [0, 0], 6), ([5], [0, 0], 8),
                ([9], [0, 0], 13), ([11], [0, 0], 10), ([15], [0, 0], 15), ([1], [0, 0], 18), ([5], [0, 0], 23)]
        self.assert_rule(plan, [step, (lows, highs)], rows)

    def test_rows_are_not_shortened(self):
        plan = written(([(0, 1)], [(0, 1)], [([2], [2], 2), ([4], [4], 4), ([6], [-6], 6)]))
        rule = rule_of(plan)
        self.assertEqual(rule[0][0][0], written([([2], [2], 2), ([4], [4], 4), ([0], [1], 0)]))
        self.assertEqual(rule[1], written([
            ([24], [0], 24), ([2], [0], 4), ([48], [0], 48), ([4], [0], 8), ([6], [0], 6),
        ]))

    def test_none_of_the_first_ones_is_put_on_twice(self):
        demands = [([1], [1], -5), ([0], [1], 0), ([1], [1], -5), ([0], [-1], 3), ([1], [1], -5), ([2], [2], -10)]
        plan = written(([(1, 4)], [(0, 3)], demands))
        lows = [([1], [1], -5), ([0], [1], 0), ([2], [2], -10)]
        self.assert_rule(plan, [(lows, [([0], [-1], 3)])], [([1], [0], -2), ([2], [0], -4)])

    def test_none_of_the_first_ones_that_says_nothing_is_put_on(self):
        plan = written(([(1, 4)], [(0, 3)], [([0], [0], 0), ([0], [0], 7), ([0], [0], TINY)]))
        self.assert_rule(plan, [([([0], [1], 0)], [([0], [-1], 3)])], [])

    def test_what_is_below_0_by_itself_is_put_on(self):
        plan = written(([(1, 4)], [(0, 3)], [([0], [0], -TINY), ([0], [0], -1), ([0], [0], -1), ([0], [0], 1)]))
        self.assert_rule(plan, [([([0], [1], 0)], [([0], [-1], 3)])], [([0], [0], -TINY), ([0], [0], -1)])

    def test_what_comes_of_two_is_put_on_once(self):
        # Two lows and two highs that come to the same; and to one that is there already.
        plan = written(([(0, 9)], [(0, 3)], [
            ([1], [0], -2), ([1], [1], 0), ([1], [1], -1), ([0], [-1], 2), ([0], [-1], -1),
        ]))
        rule = rule_of(plan)
        self.assertEqual(rule[1], written([
            ([1], [0], -2), ([1], [0], 2), ([1], [0], -1), ([1], [0], 3), ([1], [0], 1), ([0], [0], -1),
        ]))

    def test_low_that_is_its_high(self):
        plan = written(([(0, 9)], [(3, 3)], [([1], [-1], 0)]))
        self.assert_rule(plan, [([([0], [1], -3)], [([1], [-1], 0), ([0], [-1], 3)])], [([1], [0], -3)])

    def test_no_shims(self):
        self.assert_rule(no_shims(), [], [([1], [], -1)])
        plan = written(([(0, 9)], [], [([1], [], 0), ([0], [], 3), ([1], [], 0), ([0], [], -3)]))
        self.assert_rule(plan, [], [([1], [], 0), ([0], [], -3)])

    def test_no_demands(self):
        self.assert_rule(no_demands(), [([([0, 0], [1], 1)], [([0, 0], [-1], 1)])], [])
        self.assert_rule(bare(), [], [])
        plan = written(([(0, 1)], [(0, 1)] * 3, []))
        steps = [([([0], [int(j == k) for j in range(3)], 0)], [([0], [-int(j == k) for j in range(3)], 1)])
                 for k in range(3)]
        self.assert_rule(plan, steps, [])

    def test_many(self):
        source = random.Random(9)
        longest, compared = 0, 0
        for again in range(240):
            figures = (1, 1, 1, 2, 10, 40)[again % 6]
            counts = drawn_counts(source, demands=5 if figures == 40 else 9)
            plan = drawn_plan(source, figures, counts, lambda: source.randrange(-2, 4))[0]
            # Some told twice, some of nothing.
            plan[2].extend(copy.deepcopy(plan[2][:source.randrange(3)]))
            plan[2].extend([([ZERO] * counts[0], [ZERO] * counts[1], pair(source.randrange(-1, 2)))])
            wanted = wanted_rule(plan)
            if wanted is not None:
                told = rule_of(plan)
                self.assertEqual(told, written(wanted))
                self.assertTrue(all(is_fraction(q) for a, b, c in told[1] for q in a + b + [c]))
                longest, compared = max(longest, len(told[1])), compared + 1
        self.assertGreater(longest, 100)
        self.assertGreater(compared, 150)

    def test_near_two_thousand_rows(self):
        # Of 36 lows and 36 highs for s.
        draw = drawing(random.Random(3), 1)
        demands = [([draw(), draw()], [pm * (1 + abs(draw())), 0], draw()) for pm in (1, -1) for k in range(35)]
        plan = written(([(0, 1)] * 2, [(-9, 9), (0, 1)], demands))
        told = rule_of(plan)
        self.assertEqual([len(part) for part in told[0][0]], [36, 36])
        self.assertGreater(len(told[1]), 1200)
        self.assertTrue(all(row[1] == [ZERO, ZERO] for row in told[1]))
        self.assertEqual(len({(tuple(row[0]), row[2]) for row in told[1]}), len(told[1]))

    def test_kinds(self):
        told = rule_of(two_shims())
        self.assertIsInstance(told, tuple)
        self.assertEqual([type(part) for part in told], [list, list])
        self.assertEqual({type(step) for step in told[0]}, {tuple})
        self.assertEqual({(type(lows), type(highs)) for lows, highs in told[0]}, {(list, list)})
        rows = told[1] + [row for step in told[0] for part in step for row in part]
        self.assertEqual({tuple(type(part) for part in row) for row in rows}, {(list, list, tuple)})
        self.assertEqual({type(row) for row in rows}, {tuple})

    def test_what_is_told_is_the_askers_own(self):
        for plan in (small_plan(), good_plan(), two_shims(), no_shims(), no_demands(), bare()):
            check_own(self, rule_of, plan)

    def test_no_list_is_told_twice_where_the_plan_has_one_twice(self):
        shared = [ONE]
        plan = (bounds((0, 1)), bounds((0, 1)), [(shared, shared, ONE), (shared, shared, ZERO)])
        told = [id(part) for part in lists_in(rule_of(plan))]
        self.assertEqual(len(set(told) | {id(shared)}), len(told) + 1)


class ChosenTest(unittest.TestCase):
    def assert_chosen(self, plan, made, wanted):
        told = chosen_by(rule_of(plan), pairs(*made))
        self.assertIsInstance(told, list)
        self.assertEqual(told, pairs(*wanted), (plan, made))

    def assert_none(self, plan, *made):
        with self.assertRaises(NoChoice) as caught:
            chosen_by(rule_of(plan), pairs(*made))
        self.assertIsInstance(caught.exception, ShimError)
        self.assertIsInstance(caught.exception, ValueError)
        self.assertNotIsInstance(caught.exception, NoNumber)

    def test_written_out(self):
        self.assert_chosen(small_plan(), [2], [3])
        self.assert_chosen(small_plan(), [3], [2])
        self.assert_chosen(small_plan(), [Fraction(10, 3)], [Fraction(5, 3)])
        self.assert_chosen(small_plan(), [4], [1])
        self.assert_none(small_plan(), 1)

    def test_the_low_where_nothing_else_is_asked(self):
        self.assert_chosen(small_plan(), [5], [0])
        self.assert_chosen(small_plan(), [99], [0])
        self.assert_chosen(no_demands(), [1, 3], [-1])
        self.assert_chosen(written(([(0, 1)], [(-2, 5), (Fraction(1, 2), 5), (4, 4)], [])), [0],
                           [-2, Fraction(1, 2), 4])

    def test_just_at_the_edge(self):
        self.assert_none(small_plan(), 2 - TINY)
        self.assert_chosen(small_plan(), [2 + TINY], [3 - TINY])

    def test_shims_ahead_are_chosen(self):
        # s must be x at least, t at least twice s, u at least s + t.
        plan = written(([(0, 9)], [(0, 9), (0, 99), (0, 99)], [
            ([-1], [1, 0, 0], 0), ([0], [-2, 1, 0], 0), ([0], [-1, -1, 1], 0),
        ]))
        self.assert_chosen(plan, [3], [3, 6, 9])
        self.assert_chosen(plan, [Fraction(1, 2)], [Fraction(1, 2), 1, Fraction(3, 2)])
        self.assert_chosen(plan, [0], [0, 0, 0])
        self.assert_none(plan, 9 + TINY)

    def test_shims_behind_are_heeded(self):
        # t is not above s, and both together are x at least: so s is half of x at least.
        self.assert_chosen(two_shims(), [6], [3, 3])
        self.assert_chosen(two_shims(), [5], [Fraction(5, 2), Fraction(5, 2)])
        self.assert_chosen(two_shims(), [0], [0, 0])
        self.assert_none(two_shims(), 6 + TINY)
        self.assert_none(two_shims(), -1 - TINY)
        self.assert_chosen(two_shims(), [-1], [0, 0])

    def test_over_b_of_this_shim(self):
        plan = written(([(0, 9)], [(-9, 9)], [([-1], [3], 0), ([-1], [Fraction(1, 2)], 4)]))
        self.assert_chosen(plan, [6], [4])
        self.assert_chosen(plan, [1], [Fraction(1, 3)])

    def test_every_row_of_rows_counts(self):
        for k in range(4):
            demands = [([1], [], 0) for j in range(4)]
            demands[k] = ([-1], [], 1)
            plan = written(([(-9, 9)], [], demands))
            self.assert_chosen(plan, [1], [])
            self.assert_none(plan, 1 + TINY)
            self.assert_none(plan, -TINY)

    def test_no_shims(self):
        self.assert_chosen(no_shims(), [1], [])
        self.assert_none(no_shims(), 1 - TINY)
        self.assert_chosen(bare(), [0], [])

    def test_demands_that_none_can_meet(self):
        plan = written(([(0, 1)], [(0, 1)], [([0], [0], -TINY)]))
        self.assert_none(plan, 0)
        self.assert_none(plan, 1)

    def test_out_of_bounds_too(self):
        self.assert_chosen(small_plan(), [1000], [0])
        self.assert_none(small_plan(), -1000)

    def test_eighty_figures(self):
        plan = ([((-EIGHTY, 1), (EIGHTY, 1))], [(ZERO, (1, EIGHTY))], [([(1, EIGHTY)], [(EIGHTY, 1)], (-1, 1))])
        self.assertEqual(chosen_by(rule_of(plan), [ZERO]), [(1, EIGHTY)])
        self.assertEqual(chosen_by(rule_of(plan), [(EIGHTY, 1)]), [ZERO])
        with self.assertRaises(NoChoice):
            chosen_by(rule_of(plan), [(-1, EIGHTY)])

    def test_the_least_choice_shim_by_shim(self):
        # The least first shim that some choice has, and with it the least second one, is a corner of all choices.
        source = random.Random(11)
        chosen, refused = 0, 0
        for again in range(250):
            figures = (1, 1, 1, 2, 40)[again % 5]
            counts = drawn_counts(source, demands=4)
            plan, made, choice = drawn_plan(source, figures, counts, lambda: source.choice((0, 0, 1, -1, -3)))
            rule, wanted = rule_of(plan), corners(plan, made)
            if wanted:
                told = chosen_by(rule, made)
                self.assertEqual(told, pairs(*min(wanted)))
                self.assertIs(fits(plan, made, told), True)
                chosen += 1
            else:
                with self.assertRaises(NoChoice):
                    chosen_by(rule, made)
                refused += 1
        self.assertGreater(min(chosen, refused), 50)

    def test_what_is_told_is_the_askers_own(self):
        for plan, made in ((small_plan(), pairs(3)), (good_plan(), pairs(3, 1)), (two_shims(), pairs(5)),
                           (no_shims(), pairs(1)), (bare(), pairs(0))):
            check_own(self, chosen_by, rule_of(plan), made)

    def test_what_is_refused_stays_as_it_was(self):
        rule, made = rule_of(small_plan()), pairs(1)
        before = copy.deepcopy((rule, made))
        for again in range(2):
            with self.assertRaises(NoChoice):
                chosen_by(rule, made)
            self.assertEqual((rule, made), before)


if __name__ == "__main__":
    unittest.main()

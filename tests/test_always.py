"""Promises 2, 3, 12 and 13: worst worths, whether every made set has a choice, and answers that show it."""

import itertools
import random
import unittest
from fractions import Fraction

from shimright.always import always, shows, worst
from shimright.choices import choice_for, weights_bar
from shimright.plans import fits
from shimright.rules import chosen_by, rule_of
from tests.helpers import (
    EIGHTY, ONE, TINY, ZERO, bare, check_own, corners, drawing, drawn_counts, drawn_plan, good_plan, is_fraction,
    no_demands, no_shims, pair, pairs, places, read, replaced, small_plan, two_shims, value, written,
)


def edge_plan(low):
    # Just every size from 2 on has a choice.
    return written(([(low, 4)], [(0, 3)], [([1], [1], -5)]))


def made_corners(plan):
    return [list(made) for made in itertools.product(*plan[0])]


class WorstTest(unittest.TestCase):
    def assert_worst(self, plan, row, worth, made):
        told = worst(plan, written(row))
        self.assertIsInstance(told, tuple)
        self.assertEqual(told, (pair(worth), pairs(*made)))

    def test_lows_and_highs_by_the_sign(self):
        plan = written(([(1, 4), (-2, 3), (Fraction(1, 3), Fraction(1, 2))], [(0, 1)], []))
        self.assert_worst(plan, ([1, 1, 1], [0], 0), Fraction(-2, 3), [1, -2, Fraction(1, 3)])
        self.assert_worst(plan, ([-1, -1, -1], [0], 0), Fraction(-15, 2), [4, 3, Fraction(1, 2)])
        self.assert_worst(plan, ([2, -1, 6], [0], 10), 11, [1, 3, Fraction(1, 3)])
        self.assert_worst(plan, ([-TINY, TINY, 0], [0], 0), -6 * TINY, [4, -2, Fraction(1, 3)])

    def test_the_low_where_a_is_0(self):
        plan = written(([(1, 4), (-2, 3)], [], []))
        self.assert_worst(plan, ([0, -1], [], 0), -3, [1, 3])
        self.assert_worst(plan, ([-1, 0], [], 0), -4, [4, -2])

    def test_a_row_whose_a_all_are_0(self):
        plan = written(([(1, 4), (-2, 3)], [(0, 1)] * 2, []))
        for c in (0, 7, -7, TINY, -TINY):
            self.assert_worst(plan, ([0, 0], [0, 0], c), c, [1, -2])

    def test_a_low_that_is_its_high(self):
        plan = written(([(3, 3)], [], []))
        self.assert_worst(plan, ([2], [], -1), 5, [3])
        self.assert_worst(plan, ([-2], [], -1), -7, [3])

    def test_the_demands_of_the_plan_have_no_part_in_it(self):
        self.assert_worst(small_plan(), ([1], [0], 0), 1, [1])
        self.assert_worst(small_plan(), ([-1], [0], 0), -4, [4])

    def test_the_least_over_all(self):
        source = random.Random(12)
        for again in range(150):
            figures = (1, 2, 40)[again % 3]
            draw = drawing(source, figures)
            plan = drawn_plan(source, figures, drawn_counts(source, demands=0), lambda: 0)[0]
            a = [draw() if source.randrange(4) else Fraction(0) for size in plan[0]]
            row, c = written((a, [0] * len(plan[1]))), draw()
            told = worst(plan, row + (pair(c),))
            worths = [sum(x * y for x, y in zip(a, read(made))) + c for made in made_corners(plan)]
            self.assertEqual(value(told[0]), min(worths))
            self.assertEqual(told[1], [high if q < 0 else low for q, (low, high) in zip(a, plan[0])])

    def test_what_is_told_is_the_askers_own(self):
        check_own(self, worst, good_plan(), written(([2, -1], [0, 0], -5)))
        check_own(self, worst, bare(), written(([0], [], 0)))


class AlwaysTest(unittest.TestCase):
    def check(self, plan):
        """Which of both is told; it is checked that it shows itself."""
        told = always(plan)
        self.assertIsInstance(told, tuple)
        self.assertIs(shows(plan, told), True)
        if told[0] == "always":
            self.assertEqual(told, ("always", rule_of(plan)))
            return "always"
        self.assertEqual((told[0], len(told)), ("never", 3))
        self.assertIsInstance(told[1], list)
        self.assertEqual(len(told[1]), len(plan[0]))
        self.assertTrue(all(is_fraction(q) for q in told[1] + told[2]))
        for q, (low, high) in zip(read(told[1]), read(plan[0])):
            self.assertTrue(low <= q <= high)
        self.assertIs(weights_bar(plan, told[1], told[2]), True)
        self.assertEqual(corners(plan, told[1]), [])
        return "never"

    def test_written_out(self):
        self.assertEqual(always(small_plan())[:2], ("never", pairs(1)))
        self.assertEqual(self.check(small_plan()), "never")
        self.assertEqual(self.check(two_shims()), "always")
        self.assertEqual(self.check(edge_plan(3)), "always")

    def test_just_at_the_edge(self):
        self.assertEqual(self.check(edge_plan(2)), "always")
        self.assertEqual(self.check(edge_plan(2 - TINY)), "never")
        self.assertEqual(self.check(edge_plan(2 + TINY)), "always")

    def test_no_shims(self):
        self.assertEqual(self.check(no_shims()), "never")
        self.assertEqual(self.check(written(([(1, 2)], [], [([1], [], -1)]))), "always")
        self.assertEqual(self.check(written(([(1 - TINY, 2)], [], [([1], [], -1)]))), "never")

    def test_no_demands(self):
        self.assertEqual(always(no_demands()), ("always", rule_of(no_demands())))
        self.assertEqual(always(bare()), ("always", ([], [])))

    def test_low_that_is_its_high(self):
        for at, wanted in ((2, "always"), (2 - TINY, "never"), (Fraction(7, 3), "always")):
            self.assertEqual(self.check(written(([(at, at)], [(0, 3)], [([1], [1], -5)]))), wanted)
            self.assertEqual(self.check(written(([(0, 4)], [(at, at)], [([0], [1], -2)]))), wanted)

    def test_a_demand_of_c_alone(self):
        for c, wanted in ((0, "always"), (TINY, "always"), (-TINY, "never")):
            self.assertEqual(self.check(written(([(0, 1)], [(0, 1)], [([0], [0], c)]))), wanted)

    def test_only_one_row_of_many_is_below_0(self):
        for k in range(5):
            demands = [([1], [0], j + 1) for j in range(5)]
            demands[k] = ([1], [1], -5)
            self.assertEqual(self.check(written(([(0, 4)], [(0, 3)], demands))), "never")
            self.assertEqual(self.check(written(([(2, 4)], [(0, 3)], demands))), "always")

    def test_as_another_way_tells_it(self):
        # Where every corner of the bounds has a choice, what lies between has one too.
        source = random.Random(13)
        seen = {"always": 0, "never": 0}
        for again in range(200):
            figures = (1, 1, 1, 2, 40)[again % 5]
            counts = drawn_counts(source, sizes=3, demands=4)
            highest = source.choice((1, 8, 40))
            plan = drawn_plan(source, figures, counts, lambda: source.randrange(highest))[0]
            kind = self.check(plan)
            seen[kind] += 1
            every = all(corners(plan, made) for made in made_corners(plan))
            self.assertEqual(kind, "always" if every else "never", plan)
        self.assertGreater(min(seen.values()), 50)

    def test_by_the_rule_every_made_set_comes_to_a_choice_that_fits(self):
        source = random.Random(14)
        tried = 0
        for again in range(60):
            plan = drawn_plan(source, 1, drawn_counts(source, demands=5), lambda: source.randrange(60))[0]
            told = always(plan)
            if told[0] == "always":
                for turn in range(8):
                    made = [pair(low + (high - low) * Fraction(source.randrange(7), 6)) for low, high in read(plan[0])]
                    self.assertIs(fits(plan, made, chosen_by(told[1], made)), True)
                    self.assertEqual(choice_for(plan, made)[0], "choice")
                    tried += 1
        self.assertGreater(tried, 100)

    def test_eighty_figures(self):
        demand = ([(1, EIGHTY)], [(EIGHTY, 1)], (-1, 1))
        self.assertEqual(self.check(([(ZERO, (EIGHTY, 1))], [(ZERO, (1, EIGHTY))], [demand])), "always")
        self.assertEqual(self.check(([((-1, EIGHTY), ZERO)], [(ZERO, (1, EIGHTY))], [demand])), "never")

    def test_what_is_told_is_the_askers_own(self):
        for plan in (small_plan(), two_shims(), good_plan(), no_shims(), no_demands(), bare()):
            check_own(self, always, plan)


class ShowsTest(unittest.TestCase):
    def assert_shows(self, wanted, plan, answer):
        self.assertIs(shows(plan, answer), wanted, answer)

    def test_the_plans_rule_alone(self):
        self.assert_shows(True, edge_plan(2), ("always", rule_of(edge_plan(2))))
        self.assert_shows(False, edge_plan(2 - TINY), ("always", rule_of(edge_plan(2 - TINY))))
        self.assert_shows(False, small_plan(), ("always", rule_of(small_plan())))
        self.assert_shows(True, bare(), ("always", ([], [])))

    def test_another_rule(self):
        plan = two_shims()
        others = (edge_plan(2), no_shims(), no_demands(), bare(), good_plan(),
                  (plan[0], plan[1], plan[2][:-1]), (plan[0], plan[1], plan[2][::-1]), (plan[0], plan[1][::-1], []))
        for other in others:
            self.assert_shows(False, plan, ("always", rule_of(other)))
        self.assert_shows(False, plan, ("always", ([], [])))
        # Sizes have no part in a rule: that of the same shims and demands is this plan's too.
        self.assert_shows(True, edge_plan(2), ("always", rule_of(edge_plan(1))))

    def test_a_rule_spoilt_at_one_place(self):
        plan = two_shims()
        rule = rule_of(plan)
        self.assert_shows(True, plan, ("always", rule))
        for path in places(rule, is_fraction):
            for other in (pair(99), pair(TINY), pair(-1)):
                spoilt = replaced(rule, path, other)
                self.assert_shows(spoilt == rule, plan, ("always", spoilt))

    def test_a_rule_with_less_or_more_or_in_another_order(self):
        plan = written(([(0, 6)], [(0, 3), (0, 4)], [([-1], [1, 1], 1), ([1], [1, -1], 6), ([1], [0, 1], 1)]))
        rule = rule_of(plan)
        self.assert_shows(True, plan, ("always", rule))
        for path in places(rule, lambda part: isinstance(part, list)):
            part = rule
            for k in path:
                part = part[k]
            others = [part[1:], part[:-1], part[::-1], part + part[:1], []]
            for other in others:
                spoilt = replaced(rule, path, other)
                self.assert_shows(spoilt == rule, plan, ("always", spoilt))
        steps = [(highs, lows) for lows, highs in rule[0]]
        self.assert_shows(False, plan, ("always", (steps, rule[1])))

    def test_made_sets_within_bounds_and_weights_that_bar(self):
        for made, wanted in ((1, True), (2 - TINY, True), (2, False), (3, False), (1 - TINY, False), (-9, False)):
            self.assert_shows(wanted, small_plan(), ("never", pairs(made), pairs(1, 0, 1)))
        self.assert_shows(False, edge_plan(2), ("never", pairs(1), pairs(1, 0, 1)))

    def test_a_made_set_out_of_bounds_above(self):
        plan = written(([(0, 4), (0, 1)], [(0, 3)], [([-1, 0], [1], 0)]))
        self.assert_shows(True, plan, ("never", pairs(4, 1), pairs(1, 0, 1)))
        self.assert_shows(False, plan, ("never", pairs(4 + TINY, 1), pairs(1, 0, 1)))
        self.assert_shows(False, plan, ("never", pairs(4, 1 + TINY), pairs(1, 0, 1)))
        self.assert_shows(False, plan, ("never", pairs(4, -TINY), pairs(1, 0, 1)))

    def test_a_made_set_of_another_length(self):
        for made in ([], [1, 1], [1, 1, 1], [1] * 1500):
            self.assert_shows(False, small_plan(), ("never", pairs(*made), pairs(1, 0, 1)))
        plan = written(([(0, 1), (0, 1)], [], [([0, 0], [], -1)]))
        self.assert_shows(True, plan, ("never", pairs(0, 0), pairs(1)))
        self.assert_shows(False, plan, ("never", pairs(0), pairs(1)))
        self.assert_shows(False, plan, ("never", pairs(0, 0, 0), pairs(1)))

    def test_weights_that_do_not_bar(self):
        for weights in ([], [1], [1, 0], [1, 0, 0], [0, 0, 0], [1, 1, 1], [-1, 0, -1], [1, 0, 1, 0], [1, 0, 1 + TINY]):
            self.assert_shows(False, small_plan(), ("never", pairs(1), pairs(*weights)))

    def test_each_with_the_text_of_the_other(self):
        self.assert_shows(False, small_plan(), ("always", pairs(1), pairs(1, 0, 1)))
        self.assert_shows(False, two_shims(), ("never", rule_of(two_shims())))

    def test_never_both(self):
        source = random.Random(15)
        for again in range(60):
            highest = source.choice((1, 8, 40))
            plan = drawn_plan(source, 1, drawn_counts(source, sizes=3, demands=4),
                              lambda: source.randrange(highest))[0]
            rule_shows = shows(plan, ("always", rule_of(plan)))
            some_show = False
            for made in made_corners(plan):
                told = choice_for(plan, made)
                if told[0] == "bars":
                    some_show = some_show or shows(plan, ("never", made, told[1]))
                else:
                    self.assert_shows(False, plan, ("never", made, [ONE] * (len(plan[2]) + 2 * len(plan[1]))))
            self.assertNotEqual(rule_shows, some_show)

    def test_what_is_handed_in_stays_as_it_was(self):
        for plan, answer in ((two_shims(), ("always", rule_of(two_shims()))), (bare(), ("always", ([], []))),
                             (small_plan(), ("never", pairs(1), pairs(1, 0, 1))),
                             (small_plan(), ("never", pairs(3), pairs(1, 0, 1)))):
            check_own(self, shows, plan, answer)


if __name__ == "__main__":
    unittest.main()

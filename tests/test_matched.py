"""Promises 2, 3, 18 and 19: measured parts that go together, and as many pairs of them as can be."""

import functools
import random
import unittest
from fractions import Fraction

from shimright.choices import choice_for, weights_bar
from shimright.covers import matching_shows
from shimright.matched import go_together, matched
from shimright.plans import fits
from tests.helpers import (
    EIGHTY, TINY, check_own, drawn_counts, drawn_parts, drawn_plan, good_plan, is_fraction, meets, no_demands, pair,
    pairs, read, sleeve, written,
)


def within(plan, made):
    return all(low <= q <= high for q, (low, high) in zip(read(made), read(plan[0])))


def parts(*numbers):
    return [pairs(number) for number in numbers]


def most_pairs(plan, ones, others):
    """As many pairs as can be, by going through all ways to take them."""
    mates = [[j for j, other in enumerate(others) if meets(plan, one, other)] for one in ones]

    @functools.lru_cache(None)
    def most(i, used):
        if i == len(mates):
            return 0
        found = [most(i + 1, used)]
        found.extend(1 + most(i + 1, used | 1 << j) for j in mates[i] if not used >> j & 1)
        return max(found)

    return most(0, 0)


class GoTogetherTest(unittest.TestCase):
    def check(self, plan, one, other):
        told = go_together(plan, one, other)
        if not meets(plan, one, other):
            self.assertIs(told, None)
            return False
        self.assertIsInstance(told, list)
        self.assertTrue(all(is_fraction(q) for q in told))
        self.assertIs(fits(plan, one + other, told), True)
        return True

    def test_written_out(self):
        for one, other, wanted in ((0, 0, 0), (0, 1, 1), (3, Fraction(7, 2), Fraction(1, 2)), (9, 10, 1)):
            self.assertEqual(go_together(sleeve(), pairs(one), pairs(other)), pairs(wanted))

    def test_no_choice(self):
        for one, other in ((1, 0), (0, 2), (3, 3 - TINY), (3, 4 + TINY), (10, 0)):
            self.assertIs(go_together(sleeve(), pairs(one), pairs(other)), None)

    def test_out_of_bounds(self):
        # The rows of the shims let a choice by, but one or the other is out of bounds.
        for one, other in ((-TINY, 0), (-1, 0), (10, 10 + TINY), (11, 11), (-2, -2), (10, 11)):
            self.assertEqual(choice_for(sleeve(), pairs(one, other))[0], "choice")
            self.assertIs(go_together(sleeve(), pairs(one), pairs(other)), None)
        self.assertEqual(go_together(sleeve(), pairs(0), pairs(0)), pairs(0))
        self.assertEqual(go_together(sleeve(), pairs(10), pairs(10)), pairs(0))

    def test_out_of_bounds_and_no_choice(self):
        self.assertIs(go_together(sleeve(), pairs(12), pairs(0)), None)

    def test_no_shims_and_no_demands(self):
        self.assertEqual(go_together(no_demands(), pairs(1), pairs(3)), [pair(-1)])
        plan = written(([(0, 2), (0, 2)], [], [([1, -1], [], 0)]))
        self.assertEqual(go_together(plan, pairs(1), pairs(1)), [])
        self.assertIs(go_together(plan, pairs(1), pairs(1 + TINY)), None)

    def test_parts_of_one_to_all_but_one_sizes(self):
        # A size of its own bounds each: it matters which part comes first.
        for count in range(2, 7):
            plan = written(([(k, k + Fraction(1, 2)) for k in range(count)], [(0, 9)], [([1] * count, [-1], 0)]))
            made = pairs(*range(count))
            for k in range(1, count):
                self.assertIs(self.check(plan, made[:k], made[k:]), True)
                self.assertIs(go_together(plan, made[k:], made[:k]), None)

    def test_as_another_way_tells_it(self):
        source = random.Random(18)
        seen = {True: 0, False: 0}
        for again in range(150):
            counts = drawn_counts(source, demands=5)
            counts = (counts[0] + 1 if counts[0] < 6 else 6,) + counts[1:]
            margin = source.choice((lambda: 1, lambda: source.randrange(-2, 2)))
            plan, made, choice = drawn_plan(source, (1, 2, 40)[again % 3], counts, margin)
            k = source.randrange(1, counts[0])
            seen[self.check(plan, made[:k], made[k:])] += 1
        self.assertGreater(min(seen.values()), 30)

    def test_long_numbers(self):
        plan = written(([(0, EIGHTY), (0, EIGHTY)], [(0, EIGHTY)], [([-1, 1], [-1], 0), ([1, -1], [1], 0)]))
        self.assertEqual(go_together(plan, pairs(1), pairs(EIGHTY)), pairs(EIGHTY - 1))
        self.assertIs(go_together(plan, pairs(EIGHTY), pairs(EIGHTY - 1)), None)

    def test_what_is_told_is_the_askers_own(self):
        for one, other in ((0, 1), (3, 3), (3, 2), (11, 11)):
            check_own(self, go_together, sleeve(), pairs(one), pairs(other))
        check_own(self, go_together, good_plan(), pairs(3), pairs(1))


class MatchedTest(unittest.TestCase):
    def check(self, plan, ones, others, wanted):
        """That the answer has its shape, and shows by itself that no more pairs can be."""
        told = matched(plan, ones, others)
        self.assertIsInstance(told, tuple)
        self.assertEqual((len(told), told[0]), (4, "pairs"))
        self.assertEqual([type(part) for part in told[1:]], [list, tuple, list])
        self.assertEqual(len(told[1]), wanted)
        self.check_pairs(plan, ones, others, told[1])
        self.check_cover(told[2], len(ones), len(others), wanted)
        self.check_bars(plan, ones, others, told[2], told[3])
        self.assertIs(matching_shows(plan, ones, others, told), True)
        return told

    def check_pairs(self, plan, ones, others, told):
        for i, j, choice in told:
            self.assertTrue(type(i) is int and type(j) is int and isinstance(choice, list))
            self.assertIs(fits(plan, ones[i] + others[j], choice), True)
        self.assertEqual(sorted(told), told)
        self.assertEqual(len({i for i, j, choice in told}), len(told))
        self.assertEqual(len({j for i, j, choice in told}), len(told))

    def check_cover(self, cover, one_count, other_count, wanted):
        self.assertEqual([type(part) for part in cover], [list, list])
        self.assertEqual(len(cover[0]) + len(cover[1]), wanted)
        for numbers, count in zip(cover, (one_count, other_count)):
            self.assertEqual(sorted(set(numbers)), numbers)
            self.assertTrue(set(numbers) <= set(range(count)))

    def check_bars(self, plan, ones, others, cover, bars):
        left = [(i, j) for i in range(len(ones)) for j in range(len(others)) if i not in cover[0] and j not in cover[1]]
        self.assertEqual([(i, j) for i, j, weights in bars], left)
        for i, j, weights in bars:
            made = ones[i] + others[j]
            if within(plan, made):
                self.assertIs(weights_bar(plan, made, weights), True)
            else:
                self.assertIs(weights, None)

    def test_no_ones_and_no_others(self):
        self.assertEqual(matched(sleeve(), [], []), ("pairs", [], ([], []), []))
        self.assertEqual(matched(sleeve(), parts(1, 2), []), ("pairs", [], ([], []), []))
        self.assertEqual(matched(sleeve(), [], parts(1, 2)), ("pairs", [], ([], []), []))
        self.assertEqual(matched(sleeve(), parts(*[1] * 12), []), ("pairs", [], ([], []), []))

    def test_one_of_each(self):
        told = self.check(sleeve(), parts(2), parts(3), 1)
        self.assertEqual(told[1], [(0, 0, pairs(1))])
        self.assertEqual(told[3], [])
        told = self.check(sleeve(), parts(3), parts(2), 0)
        self.assertEqual(told[:3], ("pairs", [], ([], [])))
        self.assertEqual(self.check(sleeve(), parts(11), parts(11), 0), ("pairs", [], ([], []), [(0, 0, None)]))

    def test_pairs_in_the_order_of_the_ones(self):
        told = self.check(sleeve(), parts(8, 4, 0), parts(0, 4, 8), 3)
        self.assertEqual(told[1], [(0, 2, pairs(0)), (1, 1, pairs(0)), (2, 0, pairs(0))])

    def test_one_that_must_give_way(self):
        # The first would take what alone goes with the second, and so on.
        half = Fraction(1, 2)
        self.check(sleeve(), parts(0, half), parts(half, 0), 2)
        self.check(sleeve(), parts(0, -half), parts(0, half), 1)
        ones = parts(*[k * half for k in range(12)])
        self.check(sleeve(), ones, parts(*[k * half for k in range(11, -1, -1)]), 12)
        self.check(sleeve(), ones, parts(*[k * half + half for k in range(12)]), 12)
        self.check(sleeve(), ones, parts(*[k * half + 1 for k in range(12)]), 12)
        self.check(sleeve(), ones, parts(*[k * half + 1 + TINY for k in range(12)]), 11)

    def test_all_go_together(self):
        for count, other_count in ((12, 12), (12, 5), (5, 12), (1, 12), (12, 1)):
            told = self.check(sleeve(), parts(*[3] * count), parts(*[4] * other_count), min(count, other_count))
            self.assertEqual(told[3], [])

    def test_none_go_together(self):
        told = self.check(sleeve(), parts(*[4] * 12), parts(*[3] * 12), 0)
        self.assertEqual(len(told[3]), 144)
        told = self.check(sleeve(), parts(*[11] * 12), parts(*[11] * 12), 0)
        self.assertEqual(told[3], [(i, j, None) for i in range(12) for j in range(12)])

    def test_one_that_goes_with_all_and_all_with_one(self):
        self.check(sleeve(), parts(3, 7, 7, 7), parts(3, 3, 4, 4), 1)
        self.check(sleeve(), parts(3, 3, 3, 4), parts(4, 0, 0, 0), 1)
        self.check(sleeve(), parts(3, 7, 7, 7), parts(3, 3, 4, 8), 2)

    def test_parts_out_of_bounds(self):
        # By the rows of the shims each of these would go with its other one.
        told = self.check(sleeve(), parts(-1, 0, 10, 11), parts(-1, 0, 11, 12), 1)
        self.assertEqual(told[1], [(1, 1, pairs(0))])
        for i, j, weights in told[3]:
            self.assertEqual(weights is None, i in (0, 3) or j in (0, 2, 3))

    def test_bars_and_none_beside_each_other(self):
        told = self.check(sleeve(), parts(5, 11), parts(3, 11), 0)
        self.assertEqual([weights is None for i, j, weights in told[3]], [False, True, True, True])

    def test_parts_of_several_sizes(self):
        # Of sizes 0 to 3 each; the first three less the last three must be just the shim.
        for k in range(1, 6):
            demands = [([1] * 3 + [-1] * 3, [-1], 0), ([-1] * 3 + [1] * 3, [1], 0)]
            plan = written(([(0, 3)] * 6, [(0, 0)], demands))
            ones = [pairs(*[1] * k), pairs(*[2] * k), pairs(*[4] * k)]
            others = [pairs(*[2] * (6 - k)), pairs(*[1] * (6 - k)), pairs(*[1] * (6 - k))]
            self.assertEqual(most_pairs(plan, ones, others), 2)
            self.check(plan, ones, others, 2)

    def test_as_a_search_through_all_tells_it(self):
        source = random.Random(19)
        seen = set()
        for again in range(60):
            counts = (source.randrange(13), source.randrange(13))
            plan, ones, others = drawn_parts(source, 1 + again % 3, counts)
            wanted = most_pairs(plan, ones, others)
            self.check(plan, ones, others, wanted)
            seen.add((wanted == 0, wanted == min(counts)))
        self.assertEqual(len(seen), 4)

    def test_twelve_of_each(self):
        source = random.Random(91)
        for again in range(12):
            plan, ones, others = drawn_parts(source, 1 + again % 3, (12, 12))
            self.check(plan, ones, others, most_pairs(plan, ones, others))

    def test_a_plan_with_rules_of_many_rows(self):
        source = random.Random(92)
        plan, made, choice = drawn_plan(source, 1, (4, 3, 12), lambda: source.randrange(3))
        ones = [made[:2], pairs(0, 0), made[:2]]
        others = [pairs(0, 0), made[2:]]
        self.check(plan, ones, others, most_pairs(plan, ones, others))

    def test_what_is_told_is_the_askers_own(self):
        # The same part told twice, too: each choice and all weights are lists of their own.
        for ones, others in ((parts(2, 2, 5), parts(3, 3, 0)), (parts(4, 4), parts(3, 3)), ([], []),
                             (parts(11), parts(0)), (parts(5, 5), parts(6))):
            check_own(self, matched, sleeve(), ones, others)


if __name__ == "__main__":
    unittest.main()

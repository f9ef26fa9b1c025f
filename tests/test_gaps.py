"""Promises 2, 14 and 15: demands of chains, plans with demands put on, and how far a chain reaches."""

import random
import unittest
from fractions import Fraction

from shimright.choices import choice_for
from shimright.gaps import gap_demands, reach, with_demands
from shimright.plans import fits, is_plan, worths
from tests.helpers import (
    EIGHTY, ONE, TINY, ZERO, bare, bounds, check_own, corners, drawing, drawn_counts, drawn_plan, good_plan,
    is_fraction, lists_in, no_demands, no_shims, pair, pairs, read, small_plan, two_shims, value, written,
)


def chain_worth(chain, made, choice):
    both = read(made) + read(choice)
    return sum(often * both[k] for k, often in chain)


def drawn_chain(source, plan):
    count = len(plan[0]) + len(plan[1])
    return [(source.randrange(count), source.randrange(-3, 4)) for k in range(source.randrange(7))]


class GapDemandsTest(unittest.TestCase):
    def assert_demands(self, plan, chain, least, greatest, wanted):
        told = gap_demands(plan, chain, pair(least), pair(greatest))
        self.assertIsInstance(told, list)
        self.assertEqual(told, written(wanted))

    def test_written_out(self):
        self.assert_demands(good_plan(), [(0, 1), (1, -1), (2, 2), (3, -1)], Fraction(1, 2), 4, [
            ([1, -1], [2, -1], Fraction(-1, 2)), ([-1, 1], [-2, 1], 4),
        ])
        self.assert_demands(small_plan(), [(1, 1), (0, 1)], -5, -3, [([1], [1], 5), ([-1], [-1], -3)])

    def test_sizes_first_and_shims_behind(self):
        plan = written(([(0, 1)] * 3, [(0, 1)] * 2, []))
        for k in range(5):
            one = [int(j == k) for j in range(5)]
            other = [-q for q in one]
            self.assert_demands(plan, [(k, 1)], 2, 3, [(one[:3], one[3:], -2), (other[:3], other[3:], 3)])

    def test_a_number_told_twice(self):
        self.assert_demands(small_plan(), [(0, 1), (0, 1), (1, 2), (0, 5), (1, -3)], 0, 1, [
            ([7], [-1], 0), ([-7], [1], 1),
        ])
        self.assert_demands(small_plan(), [(0, 4), (0, -4)], 0, 1, [([0], [0], 0), ([0], [0], 1)])

    def test_times_of_0_and_below(self):
        self.assert_demands(small_plan(), [(0, 0), (1, -2)], 0, 1, [([0], [-2], 0), ([0], [2], 1)])
        self.assert_demands(small_plan(), [(0, 0), (1, 0)], 1, 2, [([0], [0], -1), ([0], [0], 2)])

    def test_no_links_at_all(self):
        self.assert_demands(good_plan(), [], -1, 1, [([0, 0], [0, 0], 1), ([0, 0], [0, 0], 1)])
        self.assert_demands(bare(), [], 2, 3, [([0], [], -2), ([0], [], 3)])

    def test_no_shims(self):
        self.assert_demands(no_shims(), [(0, 3)], 1, 2, [([3], [], -1), ([-3], [], 2)])

    def test_least_that_is_not_below_the_greatest(self):
        self.assert_demands(small_plan(), [(0, 1)], 3, 3, [([1], [0], -3), ([-1], [0], 3)])
        self.assert_demands(small_plan(), [(0, 1)], 4, 3, [([1], [0], -4), ([-1], [0], 3)])

    def test_long_numbers(self):
        top = Fraction(EIGHTY, EIGHTY - 1)
        self.assert_demands(small_plan(), [(0, EIGHTY), (1, -EIGHTY)], -top, top, [
            ([EIGHTY], [-EIGHTY], top), ([-EIGHTY], [EIGHTY], top),
        ])

    def test_they_say_that_the_sum_is_from_least_to_greatest(self):
        source = random.Random(14)
        seen = {True: 0, False: 0}
        for again in range(150):
            plan, made, choice = drawn_plan(source, (1, 2, 40)[again % 3], drawn_counts(source, demands=3), lambda: 0)
            chain = drawn_chain(source, plan)
            worth = chain_worth(chain, made, choice)
            least = worth + source.choice((0, -1, 1, TINY, -TINY))
            greatest = worth + source.choice((0, -1, 1, TINY, -TINY))
            demands = gap_demands(plan, chain, pair(least), pair(greatest))
            told = read(worths((plan[0], plan[1], demands), made, choice))
            self.assertEqual(told, [worth - least, greatest - worth])
            more = with_demands(plan, demands)
            self.assertIs(is_plan(more), True)
            self.assertIs(fits(more, made, choice), least <= worth <= greatest)
            seen[least <= worth <= greatest] += 1
        self.assertGreater(min(seen.values()), 30)

    def test_what_is_told_is_the_askers_own(self):
        check_own(self, gap_demands, good_plan(), [(0, 1), (3, 2), (0, -1)], ZERO, ONE)
        check_own(self, gap_demands, no_shims(), [], ONE, ONE)


class WithDemandsTest(unittest.TestCase):
    def test_put_on_behind(self):
        plan = good_plan()
        more = written([([0, 1], [1, 0], 7), ([0, 0], [0, 0], -1)])
        self.assertEqual(with_demands(plan, more), (plan[0], plan[1], plan[2] + more))
        self.assertEqual(with_demands(plan, more)[2][:2], plan[2])

    def test_alike_ones_are_put_on_too(self):
        plan = small_plan()
        self.assertEqual(with_demands(plan, plan[2])[2], plan[2] * 2)
        self.assertEqual(with_demands(plan, written([([0], [0], 1)] * 2))[2], plan[2] + written([([0], [0], 1)] * 2))

    def test_none_put_on_and_none_there(self):
        self.assertEqual(with_demands(good_plan(), []), good_plan())
        self.assertEqual(with_demands(bare(), []), bare())
        self.assertEqual(with_demands(no_demands(), written([([1, 1], [1], 0)])),
                         no_demands()[:2] + (written([([1, 1], [1], 0)]),))

    def test_kinds(self):
        told = with_demands(good_plan(), written([([0, 1], [1, 0], 7)]))
        self.assertIsInstance(told, tuple)
        self.assertEqual([type(part) for part in told], [list, list, list])
        self.assertIs(is_plan(told), True)

    def test_what_is_told_is_the_askers_own(self):
        check_own(self, with_demands, good_plan(), written([([0, 1], [1, 0], 7)]))
        check_own(self, with_demands, small_plan(), [])
        check_own(self, with_demands, bare(), [])

    def test_no_list_is_told_twice_where_one_is_handed_in_twice(self):
        shared = [ONE]
        demands = [(shared, shared, ONE)] * 2
        handed = bounds((0, 1))
        told = [id(part) for part in lists_in(with_demands((handed, handed, demands), demands))]
        self.assertEqual(len(set(told) | {id(shared), id(handed), id(demands)}), len(told) + 3)

    def test_gaps_ask_for_choices(self):
        # x + s from 6 to 7 with s up to 3: just sizes from 3 to 7 have a choice.
        plan = written(([(0, 9)], [(0, 3)], []))
        more = with_demands(plan, gap_demands(plan, [(0, 1), (1, 1)], pair(6), pair(7)))
        for made, wanted in ((3 - TINY, "bars"), (3, "choice"), (5, "choice"), (7, "choice"), (7 + TINY, "bars")):
            self.assertEqual(choice_for(more, pairs(made))[0], wanted)


class ReachTest(unittest.TestCase):
    def check(self, plan, made, chain, least, greatest):
        told = reach(plan, made, chain)
        self.assertIsInstance(told, tuple)
        self.assertEqual(len(told), 2)
        for end, wanted in zip(told, (least, greatest)):
            self.assertIsInstance(end, tuple)
            worth, choice = end
            self.assertTrue(is_fraction(worth) and all(is_fraction(q) for q in choice))
            self.assertEqual(worth, pair(wanted))
            self.assertIs(fits(plan, made, choice), True)
            self.assertEqual(chain_worth(chain, made, choice), value(worth))
        self.assertIsNot(told[0][1], told[1][1])

    def test_written_out(self):
        # x = 4: s from 1 to 3.
        self.check(small_plan(), pairs(4), [(1, 1)], 1, 3)
        self.check(small_plan(), pairs(4), [(0, 1), (1, 1)], 5, 7)
        self.check(small_plan(), pairs(4), [(0, 1), (1, -2)], -2, 2)
        self.check(small_plan(), pairs(Fraction(7, 2)), [(1, 2)], 3, 6)
        self.assertEqual(reach(small_plan(), pairs(4), [(1, 1)]), ((pair(1), pairs(1)), (pair(3), pairs(3))))

    def test_a_number_told_twice(self):
        self.check(small_plan(), pairs(4), [(1, 1), (1, 1), (0, 1), (0, -3)], -6, -2)
        self.check(small_plan(), pairs(4), [(1, 5), (1, -5)], 0, 0)

    def test_two_shims(self):
        # x = 4: s + t from 4 to 5, t not above s, neither above 3.
        self.check(two_shims(), pairs(4), [(1, 1), (2, 1)], 4, 5)
        self.check(two_shims(), pairs(4), [(1, 1)], 2, 3)
        self.check(two_shims(), pairs(4), [(2, 1)], 1, Fraction(5, 2))
        self.check(two_shims(), pairs(4), [(1, 1), (2, -1)], 0, 2)
        self.check(two_shims(), pairs(4), [(0, 2), (1, 1), (2, -3)], Fraction(3), 8)

    def test_one_worth_only(self):
        self.check(small_plan(), pairs(2), [(1, 1)], 3, 3)
        self.check(small_plan(), pairs(4), [(0, 2)], 8, 8)
        self.check(small_plan(), pairs(4), [(1, 0)], 0, 0)
        self.check(small_plan(), pairs(4), [], 0, 0)
        self.check(written(([(0, 1)], [(Fraction(2, 3), Fraction(2, 3))], [])), pairs(1), [(0, 1), (1, 3)], 3, 3)

    def test_no_shims_and_no_demands(self):
        self.check(no_shims(), pairs(Fraction(3, 2)), [(0, 2)], 3, 3)
        self.check(bare(), pairs(0), [(0, 5)], 0, 0)
        self.check(bare(), pairs(0), [], 0, 0)
        self.check(no_demands(), pairs(1, 3), [(0, 1), (1, 1), (2, 2)], 2, 6)
        plan = written(([(0, 1)], [(-1, 2), (3, 5), (Fraction(-7, 2), -3)], []))
        self.check(plan, pairs(0), [(1, 1), (2, -2), (3, 4)], -1 - 10 - 14, 2 - 6 - 12)

    def test_none_where_no_choice_fits(self):
        self.assertIsNone(reach(small_plan(), pairs(1), [(1, 1)]))
        self.assertIsNone(reach(small_plan(), pairs(2 - TINY), []))
        self.assertIsNone(reach(no_shims(), pairs(0), [(0, 1)]))
        self.assertIsNone(reach(written(([(0, 1)], [(0, 1)], [([0], [0], -TINY)])), pairs(0), [(1, 1)]))
        self.check(small_plan(), pairs(2), [], 0, 0)

    def test_none_where_the_made_set_is_out_of_bounds(self):
        # Such a made set fits with no choice, also where its rows would let one.
        for made in (4 + TINY, 99):
            self.assertEqual(choice_for(small_plan(), pairs(made))[0], "choice")
            self.assertIsNone(reach(small_plan(), pairs(made), [(1, 1)]))

    def test_many(self):
        source = random.Random(15)
        seen = {True: 0, False: 0}
        for again in range(250):
            figures = (1, 1, 1, 2, 40)[again % 5]
            counts = drawn_counts(source, demands=12 if again % 10 == 0 else 5)
            plan, made, choice = drawn_plan(source, figures, counts, lambda: source.choice((0, 0, 0, 1, 4, -1)))
            chain = drawn_chain(source, plan)
            worths_there = [chain_worth(chain, made, pairs(*corner)) for corner in corners(plan, made)]
            if worths_there:
                self.check(plan, made, chain, min(worths_there), max(worths_there))
            else:
                self.assertIsNone(reach(plan, made, chain))
            seen[bool(worths_there)] += 1
        self.assertGreater(min(seen.values()), 50)

    def test_three_shims_and_twelve_demands(self):
        source = random.Random(16)
        draw = drawing(source, 1)
        for again in range(12):
            demands = [([draw()], [draw(), draw(), draw()], 10 + draw()) for k in range(12)]
            plan = written(([(0, 1)], [(-9, 9)] * 3, demands))
            for chain in ([(1, 1)], [(2, -1)], [(1, 1), (2, 1), (3, 1)], [(0, 1), (1, 3), (2, -2), (3, 1)]):
                ends = [chain_worth(chain, [ZERO], pairs(*corner)) for corner in corners(plan, [ZERO])]
                if ends:
                    self.check(plan, [ZERO], chain, min(ends), max(ends))

    def test_many_ties(self):
        # Many rows meet in the corners, among them such as are told twice.
        demands = [([0], [x, y, z], 2) for x in (-1, 1) for y in (-1, 1) for z in (-1, 1)]
        plan = written(([(0, 1)], [(-2, 2)] * 3, demands + demands[:4]))
        self.check(plan, pairs(0), [(1, 1)], -2, 2)
        self.check(plan, pairs(0), [(1, 1), (2, 1), (3, 1)], -2, 2)
        self.check(plan, pairs(0), [(1, 3), (2, -1), (3, 2)], -6, 6)

    def test_times_of_eighty_figures(self):
        self.check(small_plan(), pairs(4), [(1, EIGHTY), (0, -EIGHTY)], -3 * EIGHTY, -EIGHTY)

    def test_what_is_told_is_the_askers_own(self):
        for plan, made, chain in ((small_plan(), pairs(4), [(1, 1), (0, 2)]), (small_plan(), pairs(2), [(1, 1)]),
                                  (two_shims(), pairs(4), [(1, 1), (1, 1)]), (no_shims(), pairs(1), [(0, 1)]),
                                  (small_plan(), pairs(1), [(1, 1)]), (no_demands(), pairs(1, 3), [])):
            check_own(self, reach, plan, made, chain)


if __name__ == "__main__":
    unittest.main()

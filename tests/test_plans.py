"""Promises 2, 5 and 6: what a plan is, what fits it, and the worths of its demands."""

import copy
import itertools
import random
import unittest
from fractions import Fraction

from shimright.plans import fits, is_plan, worths
from tests.helpers import (
    EIGHTY, ONE, TINY, ZERO, bare, bounds, good_plan, no_demands, no_shims, pair, pairs, part_at, places, replaced,
)


def is_pair_of_ints(thing):
    return isinstance(thing, tuple) and len(thing) == 2 and all(isinstance(part, int) for part in thing)


ODD_THINGS = [
    None, True, False, 0, 1, -1, "", "plan", "1/2", 1.0, 0.5, b"ab", {}, {0: 1}, set(), frozenset([1]), [], (), [[]],
    ((),), object(), Fraction(1, 2), range(3), int, len, iter([1, 2]), [ONE], (ONE,), {"sizes": []}, complex(1, 0),
]


class IsPlanTest(unittest.TestCase):
    def assert_plan(self, thing, wanted):
        self.assertIs(is_plan(thing), wanted, repr(thing)[:500])

    def test_plans(self):
        for thing in (good_plan(), no_shims(), no_demands(), bare()):
            self.assert_plan(thing, True)

    def test_low_and_high_may_be_alike(self):
        self.assert_plan((bounds((3, 3)), bounds((Fraction(-1, 2), Fraction(-1, 2))), []), True)

    def test_all_factors_may_be_0(self):
        self.assert_plan((bounds((0, 1)), bounds((0, 1)), [(pairs(0), pairs(0), pair(-1))] * 2), True)

    def test_bounds_are_compared_by_their_worth(self):
        for low, high, wanted in [
            (Fraction(1, 3), Fraction(1, 2), True), (Fraction(1, 2), Fraction(1, 3), False),
            (Fraction(-1, 2), Fraction(-1, 3), True), (Fraction(-1, 3), Fraction(-1, 2), False),
            (Fraction(9, 10), 1, True), (1, Fraction(9, 10), False), (-1, 0, True), (0, -1, False),
            (-EIGHTY, EIGHTY, True), (EIGHTY, -EIGHTY, False), (EIGHTY, EIGHTY - 1, False), (1, 1 + TINY, True),
            (1 + TINY, 1, False),
        ]:
            with self.subTest(low=low, high=high):
                pair_told = bounds((low, high))
                self.assert_plan((pair_told, [], []), wanted)
                self.assert_plan((bounds((0, 1)) + pair_told, [], []), wanted)
                self.assert_plan((bounds((0, 1)), pair_told, []), wanted)
                self.assert_plan((bounds((0, 1)), bounds((0, 1)) + pair_told, []), wanted)

    def test_of_any_lengths(self):
        for sizes, shims, demands in [(1, 0, 0), (7, 4, 13), (1, 30, 2), (60, 0, 40), (2001, 2002, 0), (1, 1, 2003)]:
            with self.subTest(sizes=sizes, shims=shims, demands=demands):
                told = [([ONE] * sizes, [(-1, 3)] * shims, ZERO) for k in range(demands)]
                plan = ([(ZERO, ONE)] * sizes, [(ZERO, ONE)] * shims, told)
                self.assert_plan(plan, True)
                self.assert_plan((plan[0], plan[1], told + [([ONE] * (sizes + 1), [(-1, 3)] * shims, ZERO)]), False)
                self.assert_plan((plan[0], plan[1], told + [([ONE] * sizes, [(-1, 3)] * (shims + 1), ZERO)]), False)

    def test_no_sizes(self):
        self.assert_plan(([], [], []), False)
        self.assert_plan(([], bounds((0, 1)), []), False)
        self.assert_plan(([], bounds((0, 1)), [([], [ONE], ZERO)]), False)

    def test_factors_of_a_wrong_length(self):
        for demand in (0, 1):
            for kind in (0, 1):
                told = part_at(good_plan(), (2, demand, kind))
                for wrong in ([], told[:1], told + [ZERO], told + told):
                    with self.subTest(demand=demand, kind=kind, wrong=wrong):
                        self.assert_plan(replaced(good_plan(), (2, demand, kind), wrong), False)
        self.assert_plan(replaced(no_shims(), (2, 0, 1), [ZERO]), False)
        # As many in all, but not each where it belongs.
        self.assert_plan((bounds((0, 1), (0, 1)), bounds((0, 1)), [([ONE], [ONE, ONE], ZERO)]), False)

    def test_tuples_and_lists_stand_where_they_are_asked(self):
        for path in places(good_plan(), lambda part: isinstance(part, (tuple, list))):
            part = part_at(good_plan(), path)
            other = list(part) if isinstance(part, tuple) else tuple(part)
            with self.subTest(path=path):
                self.assert_plan(replaced(good_plan(), path, other), False)
        for k in (1, 2):
            self.assert_plan(replaced(bare(), (k,), ()), False)

    def test_tuples_have_their_lengths(self):
        for path in places(good_plan(), lambda part: isinstance(part, tuple)):
            part = part_at(good_plan(), path)
            for wrong in ((), part[:1], part[:-1], part[1:], part + part[-1:], part + (None,), part + part):
                with self.subTest(path=path, wrong=wrong):
                    self.assert_plan(replaced(good_plan(), path, wrong), False)

    def test_no_fraction_in_any_place(self):
        wrong_ones = [
            (1, 0), (0, 0), (1, -1), (0, -1), (-1, -1), (1, -2), (2, 2), (2, 4), (-2, 4), (0, 2), (0, 3), (6, 3),
            (EIGHTY, EIGHTY), (EIGHTY, 9), (True, 1), (False, 1), (1, True), (0, True), (True, True), (1, False),
            (1.0, 1), (1, 1.0), (0.5, 1), ("1", 1), (1, "1"), (None, 1), (1, None), (Fraction(1), 1), (1, Fraction(1)),
            ([1], 1), ((1,), (1,)), 0, 1, True, False, 1.0, 0.5, "1", "1/2", "12", None, Fraction(1, 2), {}, set(),
        ]
        for path in places(good_plan(), is_pair_of_ints):
            for wrong in wrong_ones:
                with self.subTest(path=path, wrong=wrong):
                    self.assert_plan(replaced(good_plan(), path, wrong), False)

    def test_truths_are_no_whole_numbers(self):
        # Every place is tried where True or False would be just the number that stands there.
        plan = (bounds((0, 1), (0, 1)), bounds((0, 1)), [(pairs(0, 1), pairs(1), ZERO), (pairs(1, 0), pairs(0), ONE)])
        self.assert_plan(plan, True)
        for path in places(plan, lambda part: isinstance(part, int)):
            with self.subTest(path=path):
                self.assert_plan(replaced(plan, path, bool(part_at(plan, path))), False)

    def test_anything_in_any_place(self):
        for path in places(good_plan(), lambda part: not isinstance(part, int)):
            for odd in ODD_THINGS:
                # A plan may have no demands; every other thing is wrong wherever it is put.
                wanted = path == (2,) and odd == [] and isinstance(odd, list)
                with self.subTest(path=path, odd=odd):
                    self.assert_plan(replaced(good_plan(), path, odd), wanted)

    def test_anything_more_in_any_list(self):
        for path in places(good_plan(), lambda part: isinstance(part, list)):
            for odd in ODD_THINGS:
                with self.subTest(path=path, odd=odd):
                    self.assert_plan(replaced(good_plan(), path, part_at(good_plan(), path) + [odd]), False)

    def test_anything_at_all(self):
        for odd in ODD_THINGS + [good_plan, good_plan()[0], list(good_plan()), "(a, b, c)", "abc", b"abc", range(3)]:
            with self.subTest(odd=odd):
                self.assert_plan(odd, False)
        self.assert_plan({0: bounds((0, 1)), 1: [], 2: []}, False)

    def test_things_that_hold_themselves(self):
        ring = []
        ring.append(ring)
        for thing in (ring, (ring, ring, ring), (bounds((0, 1)), ring, []), (bounds((0, 1)), [], ring),
                      (bounds((0, 1)), [], [(ring, [], ZERO)])):
            self.assert_plan(thing, False)

    def test_lists_may_be_shared(self):
        shared = bounds((0, 1))
        factors = [ONE]
        self.assert_plan((shared, shared, [(factors, factors, ONE)] * 3), True)

    def test_eighty_figures(self):
        top = pair(Fraction(EIGHTY, EIGHTY - 1))
        self.assert_plan(([(ZERO, top)], [], [([top], [], (-EIGHTY, 1))]), True)


class WorthsTest(unittest.TestCase):
    def test_written_out(self):
        self.assertEqual(worths(good_plan(), pairs(3, 1), pairs(2, 0)), pairs(2, Fraction(1, 2)))
        self.assertEqual(worths(good_plan(), pairs(3, 1), pairs(2, -3)), pairs(2, Fraction(-1, 2)))
        self.assertEqual(worths(good_plan(), pairs(1, 2), pairs(0, 3)), pairs(-5, Fraction(9, 2)))

    def test_in_the_demands_order(self):
        plan = (bounds((0, 9)), bounds((0, 9)), [(pairs(k % 3), pairs(k // 3), pair(-k)) for k in range(9)])
        wanted = [k % 3 * 5 + k // 3 * 7 - k for k in range(9)]
        self.assertEqual(worths(plan, pairs(5), pairs(7)), pairs(*wanted))
        plan[2].reverse()
        self.assertEqual(worths(plan, pairs(5), pairs(7)), pairs(*reversed(wanted)))

    def test_alike_demands_are_told_each(self):
        plan = (bounds((0, 9)), [], [(pairs(2), [], pair(-1))] * 3)
        self.assertEqual(worths(plan, pairs(4), []), pairs(7, 7, 7))

    def test_out_of_bounds_too(self):
        self.assertEqual(worths(good_plan(), pairs(100, -7), pairs(-50, 90)), pairs(152, 34))
        self.assertEqual(worths(no_shims(), pairs(Fraction(-7, 3)), []), pairs(Fraction(-10, 3)))

    def test_none_where_there_are_no_demands(self):
        self.assertEqual(worths(no_demands(), pairs(1, 3), pairs(0)), [])
        self.assertEqual(worths(no_demands(), pairs(99, -3), pairs(99)), [])
        self.assertEqual(worths(bare(), pairs(0), []), [])

    def test_a_demand_of_c_alone(self):
        plan = (bounds((0, 1)), bounds((0, 1)), [(pairs(0), pairs(0), pair(Fraction(-3, 7)))])
        self.assertEqual(worths(plan, pairs(5), pairs(6)), pairs(Fraction(-3, 7)))

    def test_many(self):
        source = random.Random(6)
        for figures in (1, 1, 2, 5, 20, 80):
            for again in range(6):
                self.check_one(source, figures)

    def check_one(self, source, figures):
        def number():
            top = source.randrange(-10 ** figures + 1, 10 ** figures)
            return Fraction(top, source.randrange(1, 10 ** figures))

        sizes, shims, demands = source.randrange(1, 7), source.randrange(4), source.randrange(13)
        limits = [tuple(pairs(*sorted([number(), number()]))) for k in range(sizes + shims)]
        rows = [([number() for k in range(sizes)], [number() for k in range(shims)], number()) for k in range(demands)]
        plan = (limits[:sizes], limits[sizes:], [(pairs(*a), pairs(*b), pair(c)) for a, b, c in rows])
        made, choice = [number() for k in range(sizes)], [number() for k in range(shims)]
        wanted = [sum(x * y for x, y in zip(a + b, made + choice)) + c for a, b, c in rows]
        told = worths(plan, pairs(*made), pairs(*choice))
        self.assertIsInstance(told, list)
        self.assertEqual(told, pairs(*wanted))
        for q in told:
            self.assertIsInstance(q, tuple)
            self.assertEqual([type(part) for part in q], [int, int])


class FitsTest(unittest.TestCase):
    def assert_fits(self, plan, made, choice, wanted):
        self.assertIs(fits(plan, pairs(*made), pairs(*choice)), wanted, (made, choice))

    def test_written_out(self):
        self.assert_fits(good_plan(), [3, 1], [2, 0], True)
        self.assert_fits(good_plan(), [3, 1], [2, -3], False)
        self.assert_fits(good_plan(), [1, 2], [0, 3], False)
        self.assert_fits(good_plan(), [Fraction(7, 2), Fraction(1, 3)], [Fraction(1, 3), 1], True)

    def test_each_from_its_low_to_its_high(self):
        limits = [(1, 4), (Fraction(-1, 2), Fraction(5, 2)), (0, 6), (-3, 3)]
        plan = (bounds(*limits[:2]), bounds(*limits[2:]), [])
        for worths_told in itertools.product(*[(low, (low + high) / Fraction(3), high) for low, high in limits]):
            self.assert_fits(plan, worths_told[:2], worths_told[2:], True)
            for k, (low, high) in enumerate(limits):
                for beside in (low - TINY, high + TINY, low - 1, high + 1, low - 100, high + 100):
                    told = list(worths_told)
                    told[k] = beside
                    self.assert_fits(plan, told[:2], told[2:], False)

    def test_bounds_that_are_one_number(self):
        plan = (bounds((3, 3)), bounds((Fraction(1, 3), Fraction(1, 3))), [])
        self.assert_fits(plan, [3], [Fraction(1, 3)], True)
        for beside in (-TINY, TINY):
            self.assert_fits(plan, [3 + beside], [Fraction(1, 3)], False)
            self.assert_fits(plan, [3], [Fraction(1, 3) + beside], False)

    def test_demands_that_come_to_just_0_and_a_little_below(self):
        # x + y - s - 1 and s - x / 2, with room on all sides.
        plan = (bounds((-99, 99), (-99, 99)), bounds((-99, 99)),
                [(pairs(1, 1), pairs(-1), pair(-1)), (pairs(Fraction(-1, 2), 0), pairs(1), ZERO)])
        self.assert_fits(plan, [4, 0], [3], True)
        self.assert_fits(plan, [4, 0], [3 + TINY], False)
        self.assert_fits(plan, [4, 0], [3 - TINY], True)
        self.assert_fits(plan, [4, 0], [2], True)
        self.assert_fits(plan, [4, 0], [2 - TINY], False)
        self.assert_fits(plan, [4, -1], [2], True)
        self.assert_fits(plan, [4, -1 - TINY], [2], False)
        self.assert_fits(plan, [4, -1], [2 + TINY], False)

    def test_every_demand_counts(self):
        for k in range(4):
            demands = [(pairs(1), [], ZERO) for j in range(4)]
            demands[k] = (pairs(-1), [], pair(1))
            plan = (bounds((-9, 9)), [], demands)
            self.assert_fits(plan, [1], [], True)
            self.assert_fits(plan, [1 + TINY], [], False)
            self.assert_fits(plan, [-TINY], [], False)

    def test_a_demand_of_c_alone(self):
        for c, wanted in ((0, True), (TINY, True), (-TINY, False)):
            plan = (bounds((0, 1)), bounds((0, 1)), [(pairs(0), pairs(0), pair(c))])
            self.assert_fits(plan, [1], [1], wanted)

    def test_lists_longer_or_shorter_than_asked(self):
        plan = (bounds((0, 9), (0, 9)), bounds((0, 9), (0, 9)), [(pairs(1, 1), pairs(1, 1), ZERO)])
        for sizes in range(6):
            for shims in range(6):
                self.assert_fits(plan, [1] * sizes, [1] * shims, sizes == 2 and shims == 2)
                self.assert_fits((plan[0], plan[1], []), [1] * sizes, [1] * shims, sizes == 2 and shims == 2)
                self.assert_fits((plan[0][:1], [], []), [1] * sizes, [1] * shims, sizes == 1 and shims == 0)
        self.assert_fits(plan, [1] * 1500, [1] * 1500, False)

    def test_no_shims_and_no_demands(self):
        self.assert_fits(no_shims(), [1], [], True)
        self.assert_fits(no_shims(), [1 - TINY], [], False)
        self.assert_fits(no_shims(), [2 + TINY], [], False)
        self.assert_fits(no_shims(), [1], [0], False)
        self.assert_fits(no_demands(), [2, 3], [-1], True)
        self.assert_fits(bare(), [0], [], True)
        self.assert_fits(bare(), [], [], False)

    def test_eighty_figures(self):
        plan = ([((-EIGHTY, 1), (EIGHTY, 1))], [(ZERO, (1, EIGHTY))], [([(1, EIGHTY)], [(EIGHTY, 1)], (-1, 1))])
        self.assertIs(fits(plan, [(EIGHTY, 1)], [ZERO]), True)
        self.assertIs(fits(plan, [(EIGHTY - 1, 1)], [ZERO]), False)
        self.assertIs(fits(plan, [ZERO], [(1, EIGHTY)]), True)
        self.assertIs(fits(plan, [(-1, EIGHTY)], [(1, EIGHTY)]), False)
        self.assertIs(fits(plan, [(EIGHTY, 1)], [(1, EIGHTY - 1)]), False)

    def test_what_fits_is_what_the_words_say(self):
        source = random.Random(5)
        told = {True: 0, False: 0}
        for again in range(400):
            made, choice = [source.randrange(-1, 6), source.randrange(-1, 6)], [source.randrange(-1, 4)]
            a = [source.randrange(-3, 4), source.randrange(-3, 4)]
            b, c = [source.randrange(-3, 4)], source.randrange(-4, 15)
            plan = (bounds((0, 5), (0, 5)), bounds((0, 3)), [(pairs(*a), pairs(*b), pair(c))])
            wanted = 0 <= min(made) and max(made) <= 5 and 0 <= choice[0] <= 3
            wanted = wanted and a[0] * made[0] + a[1] * made[1] + b[0] * choice[0] + c >= 0
            self.assert_fits(plan, made, choice, wanted)
            told[wanted] += 1
        self.assertGreater(min(told.values()), 50)


class NothingIsChangedTest(unittest.TestCase):
    def test_what_is_handed_in_stays_as_it_was(self):
        for made, choice in ((pairs(3, 1), pairs(2, 0)), (pairs(9, 9), pairs(-9, 9))):
            plan = good_plan()
            before = copy.deepcopy((plan, made, choice))
            is_plan(plan)
            fits(plan, made, choice)
            worths(plan, made, choice)
            self.assertEqual((plan, made, choice), before)

    def test_what_is_no_plan_stays_as_it_was(self):
        thing = replaced(good_plan(), (2, 1, 2), (2, 4))
        before = copy.deepcopy(thing)
        self.assertIs(is_plan(thing), False)
        self.assertEqual(thing, before)

    def test_lists_of_other_lengths_stay_as_they_were(self):
        made, choice = pairs(3, 1, 2), pairs(2)
        self.assertIs(fits(good_plan(), made, choice), False)
        self.assertEqual((made, choice), (pairs(3, 1, 2), pairs(2)))

    def test_a_list_told_is_the_askers_own(self):
        for plan, made, choice in ((good_plan(), pairs(3, 1), pairs(2, 0)), (no_demands(), pairs(1, 3), pairs(0))):
            wanted = copy.deepcopy(worths(plan, made, choice))
            before = copy.deepcopy((plan, made, choice))
            first = worths(plan, made, choice)
            second = worths(plan, made, choice)
            self.assertIsNot(first, second)
            first.append((7, 1))
            first.reverse()
            self.assertEqual(second, wanted)
            second.clear()
            self.assertEqual(worths(plan, made, choice), wanted)
            self.assertEqual((plan, made, choice), before)

    def test_nothing_is_kept_of_what_was_handed_in(self):
        plan, made, choice = good_plan(), pairs(3, 1), pairs(2, 0)
        self.assertEqual(worths(plan, made, choice), pairs(2, Fraction(1, 2)))
        self.assertIs(fits(plan, made, choice), True)
        made[0] = pair(1)
        self.assertEqual(worths(plan, made, choice), pairs(-2, Fraction(3, 2)))
        self.assertIs(fits(plan, made, choice), False)
        choice[0] = pair(4)
        self.assertEqual(worths(plan, made, choice), pairs(0, Fraction(-1, 2)))
        plan[2].pop()
        self.assertEqual(worths(plan, made, choice), pairs(0))
        self.assertIs(fits(plan, made, choice), True)
        plan[1][0] = (ZERO, ONE)
        self.assertIs(fits(plan, made, choice), False)
        self.assertIs(is_plan(plan), True)
        plan[2][0][0].append(ONE)
        self.assertIs(is_plan(plan), False)

    def test_the_same_asked_again_is_answered_the_same(self):
        asked = [
            lambda: is_plan(good_plan()), lambda: is_plan(list(good_plan())),
            lambda: fits(good_plan(), pairs(3, 1), pairs(2, 0)), lambda: fits(good_plan(), pairs(3, 1), pairs(9, 0)),
            lambda: worths(good_plan(), pairs(3, 1), pairs(2, 0)), lambda: worths(no_demands(), pairs(1, 3), pairs(0)),
        ]
        first = [ask() for ask in asked]
        self.assertEqual([ask() for ask in reversed(asked)], list(reversed(first)))
        self.assertEqual([ask() for ask in asked], first)


if __name__ == "__main__":
    unittest.main()

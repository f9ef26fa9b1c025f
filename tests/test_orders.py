"""Promises 2, 3, 22, 23 and 24: orders, the rows at their places, who wins, and by which worths."""

import itertools
import random
import unittest
from fractions import Fraction

from shimright.always import always
from shimright.choices import choice_for
from shimright.errors import NoChoice, ShimError
from shimright.orders import is_order, next_worth, rows_at, who_wins
from shimright.plans import worths
from shimright.rules import rule_of
from tests.helpers import (
    EIGHTY, TINY, ZERO, bare, check_own, drawn_plan, good_plan, is_fraction, no_demands, no_shims, pair, pairs, read,
    small_plan, two_shims, value, written,
)


def turns(plan):
    return [("size", k) for k in range(len(plan[0]))] + [("shim", k) for k in range(len(plan[1]))]


def order_of(*words):
    """s0 for the first size, c0 for the first shim."""
    return [("size" if word[0] == "s" else "shim", int(word[1:])) for word in words]


def drawn_order(source, plan):
    told = turns(plan)
    source.shuffle(told)
    return told


def drawn_game(source, sizes=3, shims=3, demands=4, figures=1):
    counts = (source.randrange(1, sizes + 1), source.randrange(shims + 1), source.randrange(demands + 1))
    highest = source.choice((2, 8, 40))
    plan = drawn_plan(source, figures, counts, lambda: source.randrange(highest))[0]
    return plan, drawn_order(source, plan)


def says_something(row):
    return any(row[0]) or any(row[1]) or row[2] < 0


def put_on(rows):
    told = []
    for row in rows:
        if says_something(row) and row not in told:
            told.append(row)
    return told


def wanted_rows(plan, order, place):
    """The rows at a place in numbers, in the words of promise 23."""
    sizes, shims, rows = read(plan)
    for kind, k in order[:place - len(order) - 1:-1] if place < len(order) else []:
        if kind == "size":
            rows = [without_size(row, k, sizes[k]) for row in rows]
        else:
            unit = [Fraction(j == k) for j in range(len(shims))]
            none = [Fraction(0)] * len(sizes)
            rows = rows + [(none, unit, -shims[k][0]), (none, [-q for q in unit], shims[k][1])]
            rows = without_shim(rows, k)
        rows = put_on(rows)
    return rows


def without_size(row, k, limits):
    end = limits[0] if row[0][k] >= 0 else limits[1]
    return (row[0][:k] + [Fraction(0)] + row[0][k + 1:], row[1], row[2] + row[0][k] * end)


def without_shim(rows, k):
    told = [row for row in rows if row[1][k] == 0]
    for low in rows:
        for high in rows:
            if low[1][k] > 0 > high[1][k]:
                q, r = -high[1][k], low[1][k]
                told.append(([q * x + r * y for x, y in zip(low[0], high[0])],
                             [q * x + r * y for x, y in zip(low[1], high[1])], q * low[2] + r * high[2]))
    return told


def chooser_wins(plan, order, so_far=()):
    """Who wins by another way: one plan, with a shim for each shim and each way the maker may go ahead of it.

    The maker need try no more than lows and highs, as what the chooser wins from has no gaps in it.
    """
    sizes, shims, demands = read(plan)
    fixed = dict(zip(order, [value(q) for q in so_far]))
    free = [turn for turn in order[len(so_far):] if turn[0] == "size"]
    ways = list(itertools.product((0, 1), repeat=len(free)))
    names, limits, rows = {}, [], []
    for way in ways:
        ends = dict(fixed)
        ends.update((turn, sizes[turn[1]][end]) for turn, end in zip(free, way))
        for place, turn in enumerate(order):
            if turn[0] == "shim" and place >= len(so_far):
                ahead = tuple(end for step, end in zip(free, way) if order.index(step) < place)
                if (turn, ahead) not in names:
                    names[(turn, ahead)] = len(limits)
                    limits.append(shims[turn[1]])
    for way in ways:
        ends = dict(fixed)
        ends.update((turn, sizes[turn[1]][end]) for turn, end in zip(free, way))
        for a, b, c in demands:
            factors = [Fraction(0)] * len(limits)
            for turn in order:
                q = (a if turn[0] == "size" else b)[turn[1]]
                if turn in ends:
                    c = c + q * ends[turn]
                else:
                    ahead = tuple(end for step, end in zip(free, way) if order.index(step) < order.index(turn))
                    factors[names[(turn, ahead)]] += q
            rows.append(([0], factors, c))
    return choice_for(written(([(0, 0)], limits, rows)), [ZERO])[0] == "choice"


def outcome(plan, order, so_far):
    made, choice = [ZERO] * len(plan[0]), [ZERO] * len(plan[1])
    for (kind, k), q in zip(order, so_far):
        (made if kind == "size" else choice)[k] = q
    return "chooser" if all(q[0] >= 0 for q in worths(plan, made, choice)) else "maker"


def limits_of(plan, turn):
    return read(plan[0] if turn[0] == "size" else plan[1])[turn[1]]


def drawn_worth(source, plan, turn):
    low, high = limits_of(plan, turn)
    return pair(source.choice((low, high, low + (high - low) * Fraction(source.randrange(7), 6))))


def guess():
    # The chooser must tell s ahead of knowing x, and both may lie no more than c apart.
    return written(([(0, 4)], [(0, 4)], [([1], [-1], 2), ([-1], [1], 2)]))


def both_ways():
    # x, then s to mend it, then y, then t: x - s + y - t from 0 to 1.
    demands = [([1, 1], [-1, -1], 0), ([-1, -1], [1, 1], 1)]
    return written(([(0, 3), (0, 2)], [(0, 3), (0, 2)], demands))


class IsOrderTest(unittest.TestCase):
    def assert_order(self, wanted, plan, order):
        self.assertIs(is_order(plan, order), wanted, order)

    def test_every_order(self):
        for plan in (good_plan(), two_shims(), no_shims(), no_demands(), bare()):
            for order in itertools.permutations(turns(plan)):
                self.assert_order(True, plan, list(order))

    def test_one_left_out(self):
        for k in range(4):
            told = turns(good_plan())
            told.pop(k)
            self.assert_order(False, good_plan(), told)
        self.assert_order(False, good_plan(), [])
        self.assert_order(False, bare(), [])

    def test_one_twice(self):
        for k, j in itertools.permutations(range(4), 2):
            told = turns(good_plan())
            told[k] = told[j]
            self.assert_order(False, good_plan(), told)
        for turn in turns(good_plan()):
            self.assert_order(False, good_plan(), turns(good_plan()) + [turn])
        self.assert_order(False, bare(), order_of("s0", "s0"))

    def test_too_many(self):
        for turn in (("size", 2), ("shim", 2), ("size", -1), ("other", 0), None):
            self.assert_order(False, good_plan(), turns(good_plan()) + [turn])
        self.assert_order(False, bare(), order_of("s0", "c0"))
        self.assert_order(False, bare(), order_of("s0") * 1500)

    def test_another_thing_at_one_place(self):
        others = (
            ("sizes", 0), ("Size", 0), ("", 0), ("s", 0), (0, "size"), (None, 0), (("size", 0), 0), (["size"], 0),
            (1, 0),
            ("size", 2), ("shim", 2), ("size", -1), ("shim", -1), ("size", -2), ("shim", 10 ** 79),
            ("size", True), ("size", False), ("shim", True), ("shim", False), ("size", "0"), ("size", None),
            ("size", 0.0), ("size", (0, 1)), ("size", [0]), ["size", 0], ["shim", 1], "size", "s0", "", 0, True, None,
            (), ("size",), ("size", 0, 0), ("size", 0, "shim", 0), {"size": 0}, {}, [], {("size", 0)}, 1.5,
        )
        for place in range(4):
            for other in others:
                told = turns(good_plan())
                told[place] = other
                self.assert_order(False, good_plan(), told)

    def test_a_truth_in_the_place_of_a_number(self):
        self.assert_order(True, bare(), [("size", 0)])
        self.assert_order(False, bare(), [("size", False)])
        self.assert_order(False, good_plan(), [("size", 0), ("size", True), ("shim", 0), ("shim", 1)])

    def test_sizes_for_shims(self):
        # As many in all, but not of each.
        plan = written(([(0, 1)] * 2, [(0, 1)], []))
        self.assert_order(True, plan, order_of("s0", "s1", "c0"))
        self.assert_order(False, plan, order_of("s0", "c1", "c0"))
        self.assert_order(False, plan, order_of("s0", "s1", "s2"))

    def test_what_is_handed_in_stays_as_it_was(self):
        check_own(self, is_order, good_plan(), turns(good_plan()))
        check_own(self, is_order, good_plan(), [["size", 0]] * 4)


class RowsAtTest(unittest.TestCase):
    def assert_rows(self, plan, order, place, wanted):
        told = rows_at(plan, order, place)
        self.assertIsInstance(told, list)
        self.assertEqual(told, written(wanted), (plan, order, place))

    def test_behind_the_end_are_the_demands_as_they_are(self):
        # Also such as are told twice or say nothing: nothing was taken out.
        demands = [([1], [1], -5), ([0], [0], 3), ([1], [1], -5), ([0], [0], -3), ([0], [0], 3)]
        plan = written(([(1, 4)], [(0, 3)], demands))
        for order in (order_of("s0", "c0"), order_of("c0", "s0")):
            self.assert_rows(plan, order, 2, demands)
        self.assert_rows(no_demands(), turns(no_demands()), 3, [])

    def test_written_out_where_the_shim_comes_last(self):
        order = order_of("s0", "c0")
        self.assert_rows(small_plan(), order, 2, [([1], [1], -5)])
        self.assert_rows(small_plan(), order, 1, [([1], [0], -2)])
        self.assert_rows(small_plan(), order, 0, [([0], [0], -1)])

    def test_written_out_where_the_size_comes_last(self):
        order = order_of("c0", "s0")
        self.assert_rows(small_plan(), order, 1, [([0], [1], -4)])
        self.assert_rows(small_plan(), order, 0, [([0], [0], -1)])
        self.assert_rows(guess(), order_of("c0", "s0"), 1, [([0], [-1], 2), ([0], [1], -2)])
        self.assert_rows(guess(), order_of("c0", "s0"), 0, [])

    def test_a_size_is_put_at_its_low_or_its_high(self):
        demands = [([2, 1], [], 0), ([-2, 1], [], 0), ([0, 1], [], 0)]
        plan = written(([(-1, 4), (5, 6)], [], demands))
        self.assert_rows(plan, order_of("s1", "s0"), 1, [([0, 1], [], -2), ([0, 1], [], -8), ([0, 1], [], 0)])
        self.assert_rows(plan, order_of("s0", "s1"), 1, [([2, 0], [], 5), ([-2, 0], [], 5)])

    def test_rows_that_stay_and_say_nothing(self):
        demands = [([0], [0], 7), ([0], [0], 0), ([1], [0], 1), ([0], [0], -7), ([1], [1], 0)]
        plan = written(([(0, 1)], [(-1, 1)], demands))
        # Behind the shim's taking out: what stays, in order, then its low with the high.
        self.assert_rows(plan, order_of("s0", "c0"), 1, [([1], [0], 1), ([0], [0], -7)])
        self.assert_rows(plan, order_of("c0", "s0"), 1, [([0], [0], -7), ([0], [1], 0)])

    def test_rows_that_come_to_the_same(self):
        demands = [([1, 0], [], -1), ([1, 0], [], -1), ([1, 1], [], -1), ([1, -1], [], -1)]
        plan = written(([(0, 9), (0, 0)], [], demands))
        self.assert_rows(plan, order_of("s0", "s1"), 2, demands)
        self.assert_rows(plan, order_of("s0", "s1"), 1, [([1, 0], [], -1)])
        self.assert_rows(plan, order_of("s0", "s1"), 0, [([0, 0], [], -1)])

    def test_a_shims_own_rows_come_behind(self):
        demands = [([1], [1], 0), ([1], [-1], 1), ([2], [2], 2), ([3], [-3], 3)]
        plan = written(([(0, 9)], [(-5, 7)], demands))
        self.assert_rows(plan, order_of("s0", "c0"), 1, [
            ([2], [0], 1), ([6], [0], 3), ([1], [0], 7), ([4], [0], 4), ([12], [0], 12), ([2], [0], 16), ([1], [0], 6),
            ([3], [0], 18),
        ])

    def test_own_rows_of_the_shim_alone(self):
        # The other shim is bound only where its turn is taken out.
        plan = written(([(0, 1)], [(0, 1), (0, 2)], [([1], [1, 1], -2)]))
        self.assert_rows(plan, order_of("s0", "c0", "c1"), 2, [([1], [1, 0], 0)])
        self.assert_rows(plan, order_of("s0", "c0", "c1"), 1, [([1], [0, 0], 1)])
        self.assert_rows(plan, order_of("s0", "c1", "c0"), 2, [([1], [0, 1], -1)])
        self.assert_rows(plan, order_of("s0", "c1", "c0"), 1, [([1], [0, 0], 1)])

    def test_a_demand_that_is_the_shims_own_row(self):
        plan = written(([(0, 1)], [(0, 3)], [([0], [1], 0), ([1], [-1], 0)]))
        self.assert_rows(plan, order_of("s0", "c0"), 1, [([1], [0], 0)])

    def test_no_demands_and_no_shims(self):
        for order in itertools.permutations(turns(no_demands())):
            for place in range(4):
                self.assert_rows(no_demands(), list(order), place, [])
        self.assert_rows(no_shims(), order_of("s0"), 0, [([0], [], -1)])
        self.assert_rows(bare(), order_of("s0"), 0, [])

    def test_at_every_place_as_promised(self):
        source = random.Random(23)
        kinds = set()
        for again in range(150):
            plan, order = drawn_game(source, figures=(1, 1, 1, 40)[again % 4])
            for place in range(len(order) + 1):
                self.assert_rows(plan, order, place, wanted_rows(plan, order, place))
                kinds.add((order[place][0] if place < len(order) else None, rows_at(plan, order, place) == []))
        self.assertEqual(len(kinds), 6)

    def test_where_all_sizes_come_first_and_shims_in_order(self):
        # What is told on when all shims are out are then the rows of the rule, but for their order.
        source = random.Random(9)
        for again in range(40):
            plan, order = drawn_game(source)
            if plan[1]:
                told = rows_at(plan, turns(plan), len(plan[0]))
                self.assertEqual(sorted(told), sorted(rule_of(plan)[1]))

    def test_none_is_below_0_just_where_the_chooser_wins_from_there(self):
        source = random.Random(22)
        seen = {True: 0, False: 0}
        for again in range(120):
            plan, order = drawn_game(source, sizes=2, shims=2)
            so_far = [drawn_worth(source, plan, turn) for turn in order]
            for place in range(len(order) + 1):
                worth = outcome((plan[0], plan[1], rows_at(plan, order, place)), order, so_far[:place])
                self.assertEqual(worth == "chooser", chooser_wins(plan, order, so_far[:place]))
                seen[worth == "chooser"] += 1
        self.assertGreater(min(seen.values()), 80)

    def test_what_is_told_is_the_askers_own(self):
        for make in (good_plan, two_shims, guess, both_ways, no_shims, no_demands, bare):
            for order in (turns(make()), turns(make())[::-1]):
                for place in range(len(order) + 1):
                    check_own(self, rows_at, make(), list(order), place)
        twice = written(([(0, 1)], [], [([1], [], 0)] * 2))
        check_own(self, rows_at, twice, order_of("s0"), 1)


class WhoWinsTest(unittest.TestCase):
    def assert_wins(self, wanted, plan, *words):
        self.assertEqual(who_wins(plan, order_of(*words)), wanted, words)

    def test_knowing_helps(self):
        self.assert_wins("chooser", two_shims(), "s0", "c0", "c1")
        self.assert_wins("maker", two_shims(), "c0", "s0", "c1")
        self.assert_wins("maker", two_shims(), "c0", "c1", "s0")
        self.assert_wins("chooser", both_ways(), "s0", "c0", "s1", "c1")
        self.assert_wins("maker", both_ways(), "c0", "s0", "c1", "s1")

    def test_just_at_the_edge(self):
        self.assert_wins("chooser", guess(), "c0", "s0")
        for c, wanted in ((2, "chooser"), (2 - TINY, "maker"), (2 + TINY, "chooser")):
            plan = written(([(0, 4)], [(0, 4)], [([1], [-1], c), ([-1], [1], c)]))
            self.assert_wins(wanted, plan, "c0", "s0")
            self.assert_wins("chooser", plan, "s0", "c0")

    def test_a_shim_bound_too_narrow(self):
        self.assert_wins("maker", small_plan(), "s0", "c0")
        for high, wanted in ((4, "chooser"), (4 - TINY, "maker")):
            plan = written(([(1, 4)], [(0, high)], [([1], [1], -5)]))
            self.assert_wins(wanted, plan, "s0", "c0")
            self.assert_wins(wanted, plan, "c0", "s0")

    def test_no_shims_and_no_demands(self):
        self.assert_wins("maker", no_shims(), "s0")
        self.assert_wins("chooser", written(([(1, 2)], [], [([1], [], -1)])), "s0")
        self.assert_wins("chooser", bare(), "s0")
        for order in itertools.permutations(turns(no_demands())):
            self.assertEqual(who_wins(no_demands(), list(order)), "chooser")

    def test_a_demand_of_c_alone(self):
        for c, wanted in ((0, "chooser"), (TINY, "chooser"), (-TINY, "maker")):
            plan = written(([(0, 1)], [(0, 1)], [([0], [0], c)]))
            self.assert_wins(wanted, plan, "s0", "c0")
            self.assert_wins(wanted, plan, "c0", "s0")

    def test_as_another_way_tells_it(self):
        source = random.Random(24)
        seen = {"chooser": 0, "maker": 0}
        for again in range(150):
            plan, order = drawn_game(source, figures=(1, 1, 1, 40)[again % 4])
            told = who_wins(plan, order)
            self.assertEqual(told, "chooser" if chooser_wins(plan, order) else "maker", (plan, order))
            rows = rows_at(plan, order, 0)
            self.assertEqual(told, "maker" if any(row[2][0] < 0 for row in rows) else "chooser")
            seen[told] += 1
        self.assertGreater(min(seen.values()), 40)

    def test_where_all_sizes_come_first_as_always_tells(self):
        source = random.Random(242)
        seen = {"chooser": 0, "maker": 0}
        for again in range(150):
            plan, order = drawn_game(source, sizes=6, demands=5)
            order = sorted(order, key=lambda turn: turn[0] == "shim")
            told = who_wins(plan, order)
            self.assertEqual(told == "chooser", always(plan)[0] == "always")
            seen[told] += 1
        self.assertGreater(min(seen.values()), 40)

    def test_long_numbers(self):
        demand = ([Fraction(1, EIGHTY)], [EIGHTY], -1)
        self.assert_wins("chooser", written(([(0, EIGHTY)], [(0, Fraction(1, EIGHTY))], [demand])), "s0", "c0")
        self.assert_wins("maker", written(([(-EIGHTY, 0)], [(0, Fraction(1, EIGHTY))], [demand])), "s0", "c0")

    def test_what_is_handed_in_stays_as_it_was(self):
        for plan in (good_plan(), two_shims(), guess(), both_ways(), bare()):
            check_own(self, who_wins, plan, turns(plan))


class NextWorthTest(unittest.TestCase):
    def assert_refused(self, plan, order, so_far):
        with self.assertRaises(NoChoice) as caught:
            next_worth(plan, order, so_far)
        self.assertIsInstance(caught.exception, ShimError)

    def play(self, plan, order, winner, tell):
        """Played to the end: the winner by what is told, the other one by what tell, a function, tells of a turn."""
        so_far = []
        for turn in order:
            if (turn[0] == "size") == (winner == "maker"):
                q = next_worth(plan, order, list(so_far))
                self.assertTrue(is_fraction(q))
                low, high = limits_of(plan, turn)
                self.assertTrue(low <= value(q) <= high)
            else:
                self.assert_refused(plan, order, list(so_far))
                q = tell(turn)
            so_far.append(q)
        self.assert_refused(plan, order, so_far)
        self.assertEqual(outcome(plan, order, so_far), winner, (plan, order, so_far))

    def test_written_out(self):
        self.assertEqual(next_worth(small_plan(), order_of("s0", "c0"), []), pair(1))
        self.assert_refused(small_plan(), order_of("s0", "c0"), pairs(1))
        self.assertEqual(value(next_worth(guess(), order_of("c0", "s0"), [])), 2)
        self.assert_refused(guess(), order_of("c0", "s0"), pairs(2))
        self.assertEqual(next_worth(guess(), order_of("c0", "s0"), pairs(2 + TINY)), pair(0))
        self.assertEqual(next_worth(guess(), order_of("c0", "s0"), pairs(2 - TINY)), pair(4))

    def test_only_one_worth_does(self):
        plan = written(([(0, 4)], [(0, 4)], [([1], [-1], 0), ([-1], [1], 0)]))
        for at in (0, 4, Fraction(7, 3), TINY):
            self.assertEqual(next_worth(plan, order_of("s0", "c0"), pairs(at)), pair(at))
        self.assert_refused(plan, order_of("c0", "s0"), [])
        for at in (0, 1, 4):
            told = next_worth(plan, order_of("c0", "s0"), pairs(at))
            self.assertEqual(outcome(plan, order_of("c0", "s0"), pairs(at) + [told]), "maker")

    def test_the_shims_own_bounds(self):
        # The demand would let the shim be below its low, or asks for more than its high.
        order = order_of("s0", "c0")
        plan = written(([(0, 9)], [(2, 3)], [([1], [1], -5)]))
        self.assertEqual(next_worth(plan, order, pairs(2)), pair(3))
        self.assert_refused(plan, order, pairs(2 - TINY))
        told = value(next_worth(plan, order, pairs(9)))
        self.assertTrue(2 <= told <= 3)
        plan = written(([(0, 9)], [(2, 3)], [([1], [-1], -5)]))
        self.assertEqual(next_worth(plan, order, pairs(7)), pair(2))
        self.assert_refused(plan, order, pairs(7 - TINY))

    def test_when_the_other_one_goes_astray(self):
        # The chooser would win, but for a worth that lets the maker win.
        order = order_of("c0", "s0")
        self.assertEqual(who_wins(guess(), order), "chooser")
        for at in (0, 1, 3, 4):
            told = next_worth(guess(), order, pairs(at))
            self.assertEqual(outcome(guess(), order, pairs(at) + [told]), "maker")
        # And the other way round.
        order = order_of("s0", "c0")
        self.assertEqual(who_wins(small_plan(), order), "maker")
        for at in (2, 3, 4):
            told = next_worth(small_plan(), order, pairs(at))
            self.assertEqual(outcome(small_plan(), order, pairs(at) + [told]), "chooser")

    def test_nobodys_turn_is_left(self):
        for plan in (good_plan(), two_shims(), guess(), no_shims(), no_demands(), bare()):
            for order in (turns(plan), turns(plan)[::-1]):
                for end in (0, 1):
                    self.assert_refused(plan, order, [pair(limits_of(plan, turn)[end]) for turn in order])

    def test_no_demands(self):
        order = order_of("c0", "s0", "s1")
        told = value(next_worth(no_demands(), order, []))
        self.assertTrue(-1 <= told <= 1)
        self.assert_refused(no_demands(), order, [pair(told)])
        self.assert_refused(bare(), order_of("s0"), [])

    def test_the_winner_wins_against_lows_highs_and_what_lies_between(self):
        games = [(plan, list(order)) for plan in (two_shims(), guess(), both_ways(), small_plan(), good_plan())
                 for order in itertools.permutations(turns(plan))]
        seen = {"chooser": 0, "maker": 0}
        for plan, order in games:
            winner = who_wins(plan, order)
            seen[winner] += 1
            others = [turn for turn in order if (turn[0] == "shim") == (winner == "maker")]
            for parts in itertools.product((0, Fraction(1, 3), 1), repeat=len(others)):
                worth_of = {}
                for turn, part in zip(others, parts):
                    low, high = limits_of(plan, turn)
                    worth_of[turn] = pair(low + (high - low) * part)
                self.play(plan, order, winner, lambda turn: worth_of[turn])
        self.assertGreater(min(seen.values()), 5)

    def test_the_winner_wins_drawn_games(self):
        source = random.Random(25)
        seen = {"chooser": 0, "maker": 0}
        for again in range(120):
            plan, order = drawn_game(source, figures=(1, 1, 1, 40)[again % 4])
            winner = who_wins(plan, order)
            seen[winner] += 1
            for turn in range(3):
                self.play(plan, order, winner, lambda turn: drawn_worth(source, plan, turn))
        self.assertGreater(min(seen.values()), 30)

    def test_from_any_worths_so_far(self):
        source = random.Random(26)
        seen = {}
        for again in range(150):
            plan, order = drawn_game(source, sizes=2, shims=2)
            so_far = [drawn_worth(source, plan, turn) for turn in order]
            for place in range(len(order)):
                maker = order[place][0] == "size"
                wins = chooser_wins(plan, order, so_far[:place]) != maker
                seen[(maker, wins)] = seen.get((maker, wins), 0) + 1
                if wins:
                    told = next_worth(plan, order, so_far[:place])
                    self.assertEqual(chooser_wins(plan, order, so_far[:place] + [told]), not maker)
                else:
                    self.assert_refused(plan, order, so_far[:place])
        self.assertGreater(min(seen.values()), 30)
        self.assertEqual(len(seen), 4)

    def test_what_is_handed_in_stays_as_it_was(self):
        check_own(self, next_worth, small_plan(), order_of("s0", "c0"), [])
        check_own(self, next_worth, small_plan(), order_of("s0", "c0"), pairs(3))
        check_own(self, next_worth, two_shims(), order_of("s0", "c0", "c1"), pairs(3))
        check_own(self, next_worth, two_shims(), order_of("s0", "c0", "c1"), pairs(3, 2))
        check_own(self, next_worth, guess(), order_of("c0", "s0"), pairs(4))


if __name__ == "__main__":
    unittest.main()

"""Promises 2 and 19: whether an answer shows that of measured parts as many pairs are told as can be."""

import itertools
import random
import unittest
from fractions import Fraction

from shimright.covers import matching_shows
from shimright.matched import go_together, matched
from tests.helpers import (
    ONE, TINY, check_own, drawn_parts, is_fraction, meets, pair, pairs, part_at, places, replaced, sleeve, written,
)


def parts(*numbers):
    return [pairs(number) for number in numbers]


# Of these 2 goes with 2 and 3, 7 with 8; 4 and 9 go with none; 11 is out of bounds.
ONES = parts(2, 4, 7, 11)
OTHERS = parts(2, 3, 8, 11, 3)
BELOW = pairs(1, 0, 1, 0)
ABOVE = pairs(0, 1, 0, 1)


def good_answer():
    bars = [
        (1, 0, list(BELOW)), (1, 1, list(BELOW)), (1, 3, None), (1, 4, list(BELOW)),
        (2, 0, list(BELOW)), (2, 1, list(BELOW)), (2, 3, None), (2, 4, list(BELOW)),
        (3, 0, None), (3, 1, None), (3, 3, None), (3, 4, None),
    ]
    return ("pairs", [(0, 1, pairs(1)), (2, 2, pairs(1))], ([0], [2]), bars)


class MatchingShowsTest(unittest.TestCase):
    def assert_shows(self, wanted, answer, ones=ONES, others=OTHERS, plan=None):
        self.assertIs(matching_shows(plan or sleeve(), ones, others, answer), wanted, answer)

    def assert_none_shows(self, place, *others):
        """That the good answer with another part at a place, 1 to 3, does not show it."""
        for other in others:
            self.assertNotEqual(good_answer()[place], other)
            self.assert_shows(False, replaced(good_answer(), (place,), other))

    def test_written_out(self):
        self.assert_shows(True, good_answer())
        self.assert_shows(True, ("pairs", [], ([], []), []), [], [])
        self.assert_shows(True, ("pairs", [], ([], []), []), ONES, [])
        self.assert_shows(True, ("pairs", [], ([], []), []), [], OTHERS)
        self.assert_shows(True, ("pairs", [(0, 0, pairs(0))], ([0], []), []), parts(2), parts(2))
        self.assert_shows(True, ("pairs", [(0, 0, pairs(0))], ([], [0]), []), parts(2), parts(2))

    def test_other_answers_that_show_it_too(self):
        for path, other in (((1, 0), (0, 0, pairs(0))), ((1, 0), (0, 4, pairs(1))),
                            ((3, 0, 2), pairs(5, 0, 5, 0)), ((3, 0, 2), pairs(2, 1, 1, 0))):
            self.assert_shows(True, replaced(good_answer(), path, other))
        others_bars = [(1, j, None if j == 3 else ABOVE if j == 2 else BELOW) for j in range(5)]
        others_bars += [(3, j, None) for j in range(5)]
        self.assert_shows(True, ("pairs", good_answer()[1], ([0, 2], []), others_bars))

    def test_what_matched_tells(self):
        self.assert_shows(True, matched(sleeve(), ONES, OTHERS))
        source = random.Random(19)
        for again in range(40):
            plan, ones, others = drawn_parts(source, 1 + again % 3, (source.randrange(13), source.randrange(13)))
            told = matched(plan, ones, others)
            self.assert_shows(True, told, ones, others, plan)

    def test_another_text(self):
        for text in ("pair", "Pairs", "", "pairs ", "choice", "always", "bars"):
            self.assert_shows(False, (text,) + good_answer()[1:])
            self.assert_shows(False, (text, [], ([], []), []), [], [])

    def test_a_pair_left_out(self):
        first, second = good_answer()[1]
        self.assert_none_shows(1, [], [first], [second])
        # Fewer pairs with a cover as small leave a bar out, or tell one that does not bar.
        for cover in ([0], []), ([], [2]), ([2], []):
            for bars in (good_answer()[3], [], [(i, j, BELOW) for i in range(4) for j in range(5)]):
                self.assert_shows(False, ("pairs", [first], cover, bars))

    def test_a_pair_told_twice(self):
        first, second = good_answer()[1]
        self.assert_none_shows(1, [first, first], [second, second], [first, first, second], [first, second, second])
        self.assert_shows(False, ("pairs", [first, first], ([0], [2]), good_answer()[3]))

    def test_a_part_in_two_pairs(self):
        one_twice = [(0, 0, pairs(0)), (0, 1, pairs(1))]
        self.assert_shows(False, ("pairs", one_twice, ([0], [0]), []), parts(2), parts(2, 3))
        other_twice = [(0, 0, pairs(1)), (1, 0, pairs(0))]
        self.assert_shows(False, ("pairs", other_twice, ([0, 1], []), []), parts(2, 3), parts(3))
        self.assert_none_shows(1, [(0, 0, pairs(0)), (0, 1, pairs(1))], [(0, 0, pairs(0)), (0, 4, pairs(1))])

    def test_pairs_in_another_order(self):
        self.assert_none_shows(1, good_answer()[1][::-1])
        ones, others = parts(1, 2, 3), parts(3, 2, 1)
        told = [(0, 2, pairs(0)), (1, 1, pairs(0)), (2, 0, pairs(0))]
        for order in itertools.permutations(told):
            self.assert_shows(list(order) == told, ("pairs", list(order), ([0, 1, 2], []), []), ones, others)

    def test_pairs_of_numbers_beyond_or_below_0(self):
        first, second = good_answer()[1]
        for number in (-1, -2, -4, -5, 4, 5, 10 ** 79, -10 ** 79):
            self.assert_none_shows(1, [(number, 1, pairs(1)), second], [first, (number, 2, pairs(1))])
        for number in (-1, -4, -5, -6, 5, 6, 10 ** 79, -10 ** 79):
            self.assert_none_shows(1, [(0, number, pairs(1)), second], [first, (2, number, pairs(1))])
        # Counted from the end these would be right.
        self.assert_none_shows(1, [(-4, 1, pairs(1)), (2, 2, pairs(1))], [(0, -4, pairs(1)), (2, 2, pairs(1))],
                               [(0, 1, pairs(1)), (2, -3, pairs(1))])
        self.assert_shows(False, ("pairs", [(-1, 0, pairs(0))], ([0], []), []), parts(2), parts(2))
        self.assert_shows(False, ("pairs", [(0, -1, pairs(0))], ([0], []), []), parts(2), parts(2))
        self.assert_shows(False, ("pairs", [(0, 0, pairs(0))], ([0], []), []), [], [])

    def test_pairs_that_do_not_go_together(self):
        self.assert_none_shows(1, [(0, 1, pairs(1)), (1, 2, pairs(1))], [(0, 1, pairs(1)), (1, 2, pairs(4))],
                               [(0, 3, pairs(1)), (2, 2, pairs(1))])
        # The demands hold, but the parts are out of bounds.
        self.assert_shows(False, ("pairs", [(0, 0, pairs(0))], ([0], []), []), parts(11), parts(11))

    def test_a_choice_that_does_not_fit(self):
        second = good_answer()[1][1]
        for choice in ([0], [1 + TINY], [1 - TINY], [2], [-1], [], [1, 1], [1, 0], [1] * 1500):
            self.assert_none_shows(1, [(0, 1, pairs(*choice)), second])
        for choice in ([0], [1 + TINY], [], [1, 1]):
            self.assert_none_shows(1, [(0, 1, pairs(1)), (2, 2, pairs(*choice))])
        # The demands hold, but the shim is out of bounds.
        self.assert_shows(False, ("pairs", [(0, 0, pairs(2))], ([0], []), []), parts(2), parts(4))
        plan = written(([(0, 1), (0, 1)], [], []))
        self.assert_shows(True, ("pairs", [(0, 0, [])], ([0], []), []), parts(0), parts(0), plan)
        self.assert_shows(False, ("pairs", [(0, 0, pairs(0))], ([0], []), []), parts(0), parts(0), plan)

    def test_a_cover_with_more_or_fewer(self):
        self.assert_none_shows(2, ([], []), ([0], []), ([], [2]), ([0, 1], [2]), ([0, 2], [2]), ([0], [2, 3]),
                               ([0, 1, 2, 3], []), ([0, 1, 2, 3], [0, 1, 2, 3, 4]), ([0, 3], [2]))
        # All is covered, so no bars are asked for; but the cover is greater than the pairs are.
        self.assert_shows(False, ("pairs", good_answer()[1], ([0, 1, 2, 3], []), []))
        self.assert_shows(False, ("pairs", [], ([0, 1, 2, 3], []), []))
        self.assert_shows(False, ("pairs", [], ([0], []), []), parts(2), parts(2))
        self.assert_shows(False, ("pairs", [], ([], [0]), []), parts(2), parts(2))

    def test_a_cover_smaller_than_the_pairs(self):
        ones, others = parts(2, 11), parts(2)
        told = [(0, 0, pairs(0))]
        self.assert_shows(True, ("pairs", told, ([0], []), [(1, 0, None)]), ones, others)
        self.assert_shows(False, ("pairs", told, ([], []), [(0, 0, None), (1, 0, None)]), ones, others)

    def test_a_cover_that_does_not_rise(self):
        ones, others = parts(2, 4, 11), parts(2, 4, 9)
        told = [(0, 0, pairs(0)), (1, 1, pairs(0))]
        bars = [(2, 0, None), (2, 1, None), (2, 2, None)]
        self.assert_shows(True, ("pairs", told, ([0, 1], []), bars), ones, others)
        self.assert_shows(False, ("pairs", told, ([1, 0], []), bars), ones, others)
        left = [(0, 2, ABOVE), (1, 2, ABOVE), (2, 2, None)]
        self.assert_shows(True, ("pairs", told, ([], [0, 1]), left), ones, others)
        self.assert_shows(False, ("pairs", told, ([], [1, 0]), left), ones, others)

    def test_a_cover_that_tells_a_number_twice(self):
        self.assert_none_shows(2, ([0, 0], [2]), ([0], [2, 2]), ([0, 0], []), ([], [2, 2]))
        # As many as the pairs, and all else as it must be for what is covered.
        ones, others = parts(2, 3), parts(3, 3)
        told = [(0, 0, pairs(1)), (1, 1, pairs(0))]
        self.assert_shows(False, ("pairs", told, ([0, 0], []), [(1, 0, BELOW), (1, 1, BELOW)]), ones, others)
        ones, others = parts(2, 11), parts(2, 3)
        one = [(0, 0, pairs(0))]
        self.assert_shows(True, ("pairs", one, ([0], []), [(1, 0, None), (1, 1, None)]), ones, others)
        two = [(0, 0, pairs(0)), (1, 1, pairs(0))]
        self.assert_shows(False, ("pairs", two, ([0, 0], []), [(1, 0, None), (1, 1, None)]), ones, others)

    def test_a_cover_of_numbers_beyond_or_below_0(self):
        for number in (-1, -4, -5, 4, 5, 10 ** 79, -10 ** 79):
            self.assert_none_shows(2, ([number], [2]), ([0], [number - 1 if number < 0 else number + 1]),
                                   ([0], [number if number < 0 else number + 1]), ([0, number], []))
        # Beside one that is needed no other is, and numbers beyond cover nothing.
        bars = [(1, 0, None)]
        self.assert_shows(True, ("pairs", [(0, 0, pairs(0))], ([0], []), bars), parts(2, 11), parts(2))
        for number in (-1, -2, 2, 7):
            for cover in (([number], []), ([], [number]), ([0, number], []), ([0], [number])):
                for rest in (bars, [], [(0, 0, None), (1, 0, None)], [(0, 0, BELOW), (1, 0, None)]):
                    self.assert_shows(False, ("pairs", [(0, 0, pairs(0))], cover, rest), parts(2, 11), parts(2))

    def test_another_cover_with_the_same_bars(self):
        for cover in itertools.product(*[[[], [0], [1], [2], [3], [0, 1], [0, 2], [1, 3]]] * 2):
            self.assert_shows(cover == ([0], [2]), replaced(good_answer(), (2,), cover))

    def test_bars_left_out(self):
        bars = good_answer()[3]
        for k in range(len(bars)):
            self.assert_none_shows(3, bars[:k] + bars[k + 1:], bars[:k], bars[k + 1:])

    def test_bars_told_twice_or_beside(self):
        bars = good_answer()[3]
        for k, bar in enumerate(bars):
            self.assert_none_shows(3, bars[:k] + [bar] + bars[k:], bars + [bar], [bar] + bars)
            # One told twice in the place of another one.
            self.assert_none_shows(3, bars[:k] + [bars[k - 1]] + bars[k + 1:])
        for bar in ((0, 3, None), (1, 2, ABOVE), (3, 2, None), (4, 0, None), (1, 5, None), (-1, 0, None)):
            self.assert_none_shows(3, sorted(bars + [bar], key=lambda told: told[:2]), bars + [bar])

    def test_bars_in_another_order(self):
        bars = good_answer()[3]
        for k in range(1, len(bars)):
            self.assert_none_shows(3, bars[k:] + bars[:k])
            self.assert_none_shows(3, bars[:k - 1] + [bars[k], bars[k - 1]] + bars[k + 1:])
        self.assert_none_shows(3, sorted(bars, key=lambda told: (told[1], told[0])))

    def test_bars_of_numbers_beyond_or_below_0(self):
        bars = good_answer()[3]
        for k, (i, j, weights) in enumerate(bars):
            for other in ((i - 4, j), (i, j - 5), (i + 4, j), (i, j + 5), (j, i + 7)):
                self.assert_none_shows(3, replaced(bars, (k,), other + (weights,)))

    def test_none_in_the_place_of_weights(self):
        for k, (i, j, weights) in enumerate(good_answer()[3]):
            if weights is not None:
                self.assert_shows(False, replaced(good_answer(), (3, k, 2), None))

    def test_weights_in_the_place_of_none(self):
        # Weights that bar do not do either, where the parts are out of bounds.
        for k, (i, j, weights) in enumerate(good_answer()[3]):
            if weights is None:
                for other in (BELOW, ABOVE, [], pairs(0, 0, 0, 0)):
                    self.assert_shows(False, replaced(good_answer(), (3, k, 2), other))

    def test_weights_that_do_not_bar(self):
        for k, (i, j, weights) in enumerate(good_answer()[3]):
            if weights is not None:
                for other in (ABOVE, [], pairs(1), pairs(1, 0, 1), pairs(1, 0, 1, 0, 0), pairs(0, 0, 0, 0),
                              pairs(-1, 0, -1, 0), pairs(1, 0, 1 + TINY, 0), pairs(1, 0, 1, TINY), [ONE] * 1500):
                    self.assert_shows(False, replaced(good_answer(), (3, k, 2), other))

    def test_a_fraction_spoilt_at_one_place(self):
        for path in places(good_answer(), is_fraction):
            for other in (pair(99), pair(-1), pair(Fraction(1, 3))):
                self.assert_shows(False, replaced(good_answer(), path, other))

    def test_a_number_spoilt_at_one_place(self):
        fractions = places(good_answer(), is_fraction)
        for path in places(good_answer(), lambda part: type(part) is int):
            if path[:-1] not in fractions:
                number = part_at(good_answer(), path)
                for other in (number - 1, number + 1, -1 - number, number + 12, -10 ** 79):
                    spoilt = replaced(good_answer(), path, other)
                    self.assert_shows(False, spoilt)

    def test_long_lists(self):
        first = good_answer()[1][0]
        self.assert_none_shows(1, [first] * 1500)
        self.assert_none_shows(2, ([0] * 1500, [2]), ([0], [2] * 1500), (list(range(1500)), list(range(1500))))
        self.assert_none_shows(3, [(1, 0, BELOW)] * 1500)

    def test_no_answer_shows_fewer_than_can_be(self):
        # All covers there are with one less than matched tells, each with the bars it asks for, as good as they can be.
        source = random.Random(91)
        for again in range(12):
            plan, ones, others = drawn_parts(source, 1 + again % 2, (3, 3))
            told = matched(plan, ones, others)
            if told[1]:
                for numbers in itertools.combinations(range(6), len(told[1]) - 1):
                    cover = ([k for k in numbers if k < 3], [k - 3 for k in numbers if k >= 3])
                    bars = self.best_bars(plan, ones, others, cover)
                    self.assert_shows(False, ("pairs", told[1][:-1], cover, bars), ones, others, plan)

    def best_bars(self, plan, ones, others, cover):
        bars = []
        for i, j in itertools.product(range(3), repeat=2):
            if i not in cover[0] and j not in cover[1]:
                told = matched(plan, [ones[i]], [others[j]])
                bars.append((i, j, told[3][0][2] if told[3] else [ONE] * (len(plan[2]) + 2)))
        return bars

    def test_what_is_handed_in_stays_as_it_was(self):
        check_own(self, matching_shows, sleeve(), [list(one) for one in ONES], [list(other) for other in OTHERS],
                  good_answer())
        check_own(self, matching_shows, sleeve(), parts(2), parts(2), ("pairs", [], ([], []), []))

    def test_the_parts_of_these_tests(self):
        told = [(i, j) for i, one in enumerate(ONES) for j, other in enumerate(OTHERS) if meets(sleeve(), one, other)]
        self.assertEqual(told, [(0, 0), (0, 1), (0, 4), (2, 2)])
        for i, j in told:
            self.assertIsNotNone(go_together(sleeve(), ONES[i], OTHERS[j]))


if __name__ == "__main__":
    unittest.main()

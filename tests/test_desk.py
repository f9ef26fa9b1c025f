"""Promises 1, 2, 26 and 27: a desk to which a plan is told, and what is asked of it row by row."""

import itertools
import random
import unittest

from shimright.always import always
from shimright.choices import choice_for
from shimright.desk import Desk
from shimright.errors import NoName, NoNumber, NoRow, NoText, ShimError, TooMany
from shimright.gaps import reach
from shimright.matched import matched
from shimright.orders import who_wins
from shimright.rules import rule_of
from shimright.texts import read_list, show_list, show_plan
from shimright.whole import good_set, how_many
from tests.helpers import (
    bare, drawn_plan, good_plan, lists_in, no_demands, no_shims, sleeve, small_plan, spoil, two_shims, written,
)

SMALL = "size 1 4; shim 0 3; demand 1 : 1 : -5"
SLEEVE = "size 0 10; size 0 10; shim 0 1; demand -1 1 : -1 : 0; demand 1 -1 : 1 : 0"
SIX = "; ".join(["size 0 9"] * 6)
FORTY = "9" * 40

# A row of each kind that goes with the plan of SLEEVE.
ASKED = ("fit 2 3", "always", "rows", "count", "number 0", "reach 2 3 : 0 2", "order s0 s1 c0", "match 2 / 4 | 3 / 4")

NO_ROWS = (
    "", " ",
    "plan", "Plan size 0 1", "plan\tsize 0 1", "plansize 0 1", " plan size 0 1", "planx", "PLAN", "plan;",
    "fit", "fit ", " fit 1", "fit  1", "fit 1 ", "fit 1  2", "Fit 1", "fit\t1", "fit 1\n", "fit\n1", "fit none",
    "fit x", "fit 1,2", "fit 01", "fit -0", "fit +1", "fit 2/4", "fit 1/1", "fit 1/0", "fit 1.5", "fit 1 : 0",
    "fit : 1", "fits 1", "fit " + "9" * 41, "fit 1/" + "9" * 41, "fit -" + "9" * 41, "fit (1, 2)", "fit fit 1",
    "always ", " always", "always 1", "Always", "always always", "alway", "always\n", "always?",
    "rows ", " rows", "rows 1", "Rows", "row", "rows\n", "rows 0",
    "count ", " count", "count 1", "Count", "counts", "count\n", "count of",
    "number", "number ", "number  1", "number 1 ", "number 1 2", "number -1", "number -0", "number +1", "number 01",
    "number 00", "number 000000", "number 1234567", "number 0000001", "number 1/2", "number 1.0", "number x",
    "number 1\n", " number 1", "number none", "number 1_0", "number 1e3", "Number 1",
    "reach", "reach ", "reach 1", "reach 1 2", "reach 1 :", "reach 1 : ", "reach : 0", "reach :", "reach  : 0",
    "reach 1 : 0 : 1", "reach 1 : 0 :", "reach : 1 : 0", "reach 1: 0", "reach 1 :0", "reach 1  : 0", "reach 1 :  0",
    "reach 1 : 0 ", "reach 1 : -1", "reach 1 : 00", "reach 1 : 01", "reach 1 : 1/2", "reach 1 : 1234567",
    "reach 1 : s0", "reach 1 : 0,1", "reach x : 0", "reach 01 : 0", "reach 1 ; 0", "reach none : 0", "reach 1 : none",
    "reach 1 : +1", "reach " + "9" * 41 + " : 0",
    "order", "order ", "order s", "order c", "order 0", "order s0 ", "order  s0", "order s0  c0", "order s-1",
    "order s00", "order s01", "order S0", "order C0", "order x0", "order s 0", "order s0,c0", "order s0c0",
    "order 0s", "order s0 c", "order s1234567", "order s1/2", "order size 0", "order s0\n", "order s0 : c0",
    "order cs0", "order ss0", "order s+1",
    "match", "match ", "match 1", "match 1 |", "match | 1", "match |", "match 1 | ", "match  | 1", "match 1 | 2 | 3",
    "match 1|2", "match 1 |2", "match 1| 2", "match 1 / | 2", "match / 1 | 2", "match 1 | 2 /", "match 1 | / 2",
    "match 1 / / 2 | 3", "match 1/ 2 | 3", "match 1 /2 | 3", "match 1 / 2", "match 1 / 2 / 3", "match 1  | 2",
    "match 1 |  2", "match 1 | 2 ", "match 01 | 2", "match 1 | 02", "match 1 | 2/4", "match none | none",
    "match none | 1", "match x | 1", "match 1 : 2", "match " + "9" * 41 + " | 1", "match | ", "match / | /",
    "match 1 || 2", "match 1 // 2 | 3",
    "say", "desk", "help", "0", "1", ":", "none", "ok", "size 0 1", "size 0 1; shim 0 1", "shims", "demand",
    "\n", "\t",
)

NO_PLANS = (
    "", " ", "x", "size", "size 0", "size 1 0", " size 0 1", "size 0 1 ", "size  0 1", "size 0 1;", "size 0 1; ",
    "shim 0 1", "size 0 1; demand 1 : 0", "size 0 1; demand 1 : 1 : 0", "size 00 1", "size 0 1\n", "plan size 0 1",
    "none", "size 0 " + "9" * 41, "size 0 1; size 0 1; shim 0 1; demand 1 : 1 : 0",
)


def desk_with(text):
    desk = Desk()
    desk.say("plan " + text)
    return desk


def told_by(text, row):
    return desk_with(text).say(row)


def turn_words(order):
    return " ".join(("s" if kind == "size" else "c") + str(k) for kind, k in order)


class DeskTest(unittest.TestCase):
    def assert_says(self, text, row, wanted):
        told = told_by(text, row)
        self.assertIs(type(told), str)
        self.assertEqual(told, wanted, row)

    def assert_refused(self, desk, row, kind):
        with self.assertRaises(kind, msg=repr(row)) as caught:
            desk.say(row)
        self.assertIs(type(caught.exception), kind, repr(row))
        self.assertIsInstance(caught.exception, ShimError)


class PlanRowTest(DeskTest):
    def test_at_first_none(self):
        self.assertIs(Desk().plan(), None)

    def test_a_plan_told(self):
        for make in (small_plan, good_plan, two_shims, no_shims, no_demands, bare, sleeve):
            desk = Desk()
            self.assertEqual(desk.say("plan " + show_plan(make())), "ok")
            self.assertEqual(desk.plan(), make())

    def test_another_one_in_its_place(self):
        desk = desk_with(SMALL)
        self.assertEqual(desk.say("fit 4"), "choice 1")
        self.assertEqual(desk.say("plan size 0 2; demand 1 : : -1"), "ok")
        self.assertEqual(desk.plan(), no_shims())
        self.assertEqual(desk.say("fit 1"), "choice none")
        self.assertEqual(desk.say("count"), "2 of 3")
        self.assertEqual(desk.say("plan " + SLEEVE), "ok")
        self.assertEqual(desk.say("fit 2 3"), "choice 1")
        self.assertEqual(desk.say("plan " + SMALL), "ok")
        self.assertEqual(desk.say("fit 4"), "choice 1")

    def test_the_plan_told_is_the_askers_own(self):
        desk = desk_with(SLEEVE)
        answers = [desk.say(row) for row in ASKED]
        first, second = desk.plan(), desk.plan()
        told = [id(part) for part in lists_in(first) + lists_in(second)]
        self.assertEqual(len(set(told)), len(told))
        spoil(first)
        self.assertEqual(second, sleeve())
        self.assertEqual(desk.plan(), sleeve())
        self.assertEqual([desk.say(row) for row in ASKED], answers)

    def test_asking_changes_nothing(self):
        desk = desk_with(SLEEVE)
        answers = [desk.say(row) for row in ASKED]
        for again in range(3):
            self.assertEqual([desk.say(row) for row in ASKED], answers)
            self.assertEqual([desk.say(row) for row in ASKED[::-1]], answers[::-1])
        self.assertEqual(desk.plan(), sleeve())

    def test_two_desks_have_nothing_in_common(self):
        one, other = Desk(), Desk()
        one.say("plan " + SMALL)
        self.assertIs(other.plan(), None)
        self.assert_refused(other, "fit 4", NoName)
        other.say("plan size 0 2; demand 1 : : -1")
        self.assertEqual((one.plan(), other.plan()), (small_plan(), no_shims()))
        self.assertEqual((one.say("count"), other.say("count")), ("3 of 4", "2 of 3"))
        one.say("plan size 0 0")
        self.assertEqual(other.plan(), no_shims())
        # Told the same text they have two plans all the same.
        other.say("plan size 0 0")
        spoil(other.plan())
        self.assertEqual(one.plan(), bare())


class AnswersTest(DeskTest):
    def test_fit(self):
        for row, wanted in (("fit 4", "choice 1"), ("fit 2", "choice 3"), ("fit 1", "none"), ("fit 7/2", "choice 3/2")):
            self.assert_says(SMALL, row, wanted)
        self.assert_says("size 0 2; demand 1 : : -1", "fit 1", "choice none")
        self.assert_says("size 0 2; demand 1 : : -1", "fit 0", "none")
        self.assert_says("size 0 0", "fit 0", "choice none")
        self.assert_says(SLEEVE, "fit 2 3", "choice 1")
        self.assert_says(SLEEVE, "fit 3 2", "none")

    def test_fit_out_of_bounds(self):
        self.assert_says(SMALL, "fit 5", "choice 0")
        self.assert_says(SMALL, "fit 1000000", "choice 0")
        self.assert_says(SMALL, "fit -1", "none")
        self.assert_says(SLEEVE, "fit 99 100", "choice 1")
        self.assert_says(SLEEVE, "fit -7/2 -3", "choice 1/2")
        self.assert_says("size 0 0", "fit 5", "choice none")

    def test_fit_of_forty_figures(self):
        self.assert_says(SMALL, "fit " + FORTY, "choice 0")
        self.assert_says(SMALL, "fit -" + FORTY, "none")
        self.assert_says(SLEEVE, "fit 0 1/" + FORTY, "choice 1/" + FORTY)
        self.assert_says(SLEEVE, "fit -%s -%s" % (FORTY, FORTY), "choice 0")

    def test_as_choice_for_tells(self):
        source = random.Random(26)
        seen = set()
        for again in range(60):
            counts = (1 + again % 6, again % 4, source.randrange(5))
            plan, made, choice = drawn_plan(source, 1, counts, lambda: source.randrange(-2, 3))
            told = choice_for(plan, made)
            wanted = "choice " + show_list(told[1]) if told[0] == "choice" else "none"
            self.assert_says(show_plan(plan), "fit " + show_list(made), wanted)
            seen.add(told[0])
        self.assertEqual(len(seen), 2)

    def test_always(self):
        self.assert_says(SMALL, "always", "no 1")
        self.assert_says("size 2 4; shim 0 3; demand 1 : 1 : -5", "always", "yes")
        self.assert_says(SLEEVE, "always", "no " + show_list(always(sleeve())[1]))
        self.assert_says("size 0 0", "always", "yes")
        self.assert_says("size -1/2 2; size 0 1/3; demand 1 -1 : : 0", "always", "no -1/2 1/3")

    def test_rows(self):
        self.assert_says(SMALL, "rows", "1")
        self.assert_says("size 0 0", "rows", "0")
        self.assert_says("size 0 2; demand 1 : : -1", "rows", "1")
        for make in (good_plan, two_shims, no_demands, sleeve):
            self.assert_says(show_plan(make()), "rows", str(len(rule_of(make())[1])))
        many = written(([(0, 1)], [(-9, 9)] * 2, [([k], [k - 3, 5 - k], k * k) for k in range(8)]))
        self.assertGreater(len(rule_of(many)[1]), 10)
        self.assert_says(show_plan(many), "rows", str(len(rule_of(many)[1])))

    def test_count(self):
        self.assert_says(SMALL, "count", "3 of 4")
        self.assert_says("size 1/3 2/3; size 0 " + FORTY, "count", "0 of 0")
        self.assert_says("size 1 20000", "count", "20000 of 20000")
        self.assert_says("size 0 3; demand 0 : : -1", "count", "0 of 4")
        self.assert_says(SLEEVE, "count", "21 of 121")

    def test_number(self):
        for number, wanted in enumerate(("2", "3", "4")):
            self.assert_says(SMALL, "number %d" % number, wanted)
        self.assert_says(SLEEVE, "number 0", "0 0")
        self.assert_says(SLEEVE, "number 1", "0 1")
        self.assert_says(SLEEVE, "number 20", "10 10")
        self.assert_says("size -5 19994; demand -1 : : 13999", "number 14004", "13999")
        for number in range(21):
            self.assert_says(SLEEVE, "number %d" % number, show_list(good_set(sleeve(), number)))

    def test_reach(self):
        self.assert_says(SMALL, "reach 4 : 0 1", "5 7")
        self.assert_says(SMALL, "reach 4 : 1 0", "5 7")
        self.assert_says(SMALL, "reach 4 : 1", "1 3")
        self.assert_says(SMALL, "reach 4 : 0", "4 4")
        self.assert_says(SMALL, "reach 7/2 : 1", "3/2 3")
        self.assert_says(SMALL, "reach 1 : 1", "none")
        self.assert_says("size 0 2; demand 1 : : -1", "reach 1 : 0", "1 1")
        self.assert_says("size -1 0; size 0 1/3; shim -5 -2", "reach -1/2 1/4 : 0 2 1", "-21/4 -9/4")
        self.assert_says("size -1 0; size 0 1/3; shim -5 -2", "reach -1/2 1/4 : 2", "-5 -2")

    def test_reach_at_the_bounds(self):
        for at, wanted in (("1", "none"), ("4", "1 3"), ("2", "3 3")):
            self.assert_says(SMALL, "reach %s : 1" % at, wanted)

    def test_order(self):
        self.assert_says(SMALL, "order s0 c0", "maker")
        plan = show_plan(two_shims())
        self.assert_says(plan, "order s0 c0 c1", "chooser")
        self.assert_says(plan, "order c0 s0 c1", "maker")
        for order in itertools.permutations([("size", 0), ("size", 1), ("shim", 0), ("shim", 1)]):
            self.assert_says(show_plan(good_plan()), "order " + turn_words(order), who_wins(good_plan(), list(order)))
        self.assert_says("size 0 0", "order s0", "chooser")
        self.assert_says("size 0 2; demand 1 : : -1", "order s0", "maker")

    def test_match(self):
        for row, wanted in (("match 2 | 3", "1"), ("match 3 | 2", "0"), ("match 2 / 4 | 3 / 4", "2"),
                            ("match 2 / 2 | 3", "1"),
                            ("match 2 / 4 / 7 | 2", "1"), ("match 0 / 1/2 | 1/2 / 0", "2"), ("match 11 | 11", "0"),
                            ("match -1 / 2 | -1 / 2", "1"), ("match 2 | 3 / 3 / 3", "1")):
            self.assert_says(SLEEVE, row, wanted)

    def test_match_of_several_sizes(self):
        for k in range(1, 6):
            ones, others = " ".join("123456"[:k]), " ".join("123456"[k:])
            self.assert_says(SIX, "match %s | %s" % (ones, others), "1")
            self.assert_says(SIX, "match %s / %s | %s / %s / %s" % (ones, ones, others, others, others), "2")

    def test_match_of_twelve_parts(self):
        self.assert_says(SLEEVE, "match " + " / ".join(["2"] * 12) + " | " + " / ".join(["3"] * 12), "12")
        self.assert_says(SLEEVE, "match " + " / ".join(["2"] * 12) + " | 3", "1")
        ones, others = ["2", "4", "5/2", "3", "9", "8", "1", "1", "7", "0", "11", "6"], ["3", "4", "9/2"] * 4
        told = matched(sleeve(), [read_list(one) for one in ones], [read_list(other) for other in others])
        self.assert_says(SLEEVE, "match " + " / ".join(ones) + " | " + " / ".join(others), str(len(told[1])))

    def test_more_than_forty_figures_are_told(self):
        text = "size 0 " + FORTY + "; shim 0 " + FORTY + "; demand " + FORTY + " : -" + FORTY + " : 0"
        self.assert_says(text, "reach %s : 0 1" % FORTY, FORTY + " " + str(2 * int(FORTY)))
        # Here the shim must be just the size over something.
        text = "size 0 %s; shim 0 1; demand 1 : -%s : 0; demand -1 : %s : 0" % (FORTY, FORTY, FORTY)
        self.assert_says(text, "fit 1/" + FORTY, "choice 1/" + str(int(FORTY) ** 2))
        self.assert_says(text, "reach 1/%s : 1" % FORTY, " ".join(["1/" + str(int(FORTY) ** 2)] * 2))
        # And so it may well be told of made sets.
        text = "size -%s 0; demand 1 : : 0" % FORTY
        self.assert_says(text, "always", "no -" + FORTY)

    def test_each_as_the_stages_tell(self):
        plan = good_plan()
        desk = desk_with(show_plan(plan))
        good, every = how_many(plan)
        self.assertEqual(desk.say("count"), "%d of %d" % (good, every))
        for number in range(good):
            made = good_set(plan, number)
            text = show_list(made)
            self.assertEqual(desk.say("number %d" % number), text)
            self.assertEqual(desk.say("fit " + text), "choice " + show_list(choice_for(plan, made)[1]))
            for some in itertools.permutations(range(4), 2):
                found = reach(plan, made, [(k, 1) for k in some])
                wanted = " ".join(show_list([worth]) for worth, choice in found)
                self.assertEqual(desk.say("reach %s : %d %d" % ((text,) + some)), wanted)


class RefusalsTest(DeskTest):
    def test_what_is_no_row(self):
        for desk in (Desk(), desk_with(SMALL), desk_with(SLEEVE), desk_with("size 0 0")):
            before = desk.plan()
            for row in NO_ROWS:
                self.assert_refused(desk, row, NoRow)
            self.assertEqual(desk.plan(), before)

    def test_what_is_no_text_at_all(self):
        for thing in (None, 1, True, b"always", ["always"], ("fit", "1"), {}):
            for desk in (Desk(), desk_with(SMALL)):
                self.assert_refused(desk, thing, NoRow)

    def test_a_text_that_writes_no_plan(self):
        for desk in (Desk(), desk_with(SMALL)):
            before = desk.plan()
            for text in NO_PLANS:
                self.assert_refused(desk, "plan " + text, NoText)
                self.assertEqual(desk.plan(), before)
        desk = desk_with(SMALL)
        self.assert_refused(desk, "plan size 1 0", NoText)
        self.assertEqual(desk.say("fit 4"), "choice 1")

    def test_where_no_plan_is(self):
        desk = Desk()
        for row in ASKED + ("fit 1", "fit 1 2 3 4 5 6 7", "number 999999", "reach 1 : 9", "reach 1 : 0 0",
                            "order s0 s0",
                            "order s999999", "match 1 | 2", "match 1 2 / 3 | 4",
                            "match " + " / ".join("1" * 13) + " | 1"):
            self.assert_refused(desk, row, NoName)
            self.assertIs(desk.plan(), None)
        self.assert_refused(desk, "plan size 1 0", NoText)
        self.assert_refused(desk, "fit 1", NoName)
        self.assertEqual(desk.say("plan " + SMALL), "ok")
        self.assertEqual(desk.say("fit 4"), "choice 1")

    def test_other_lengths(self):
        for row in ("fit 1 2", "fit 1 2 3", "reach 1 2 : 0", "match 1 | 2", "match 1 2 | 3"):
            self.assert_refused(desk_with(SMALL), row, NoNumber)
        for row in ("fit 1", "fit 1 2 3", "reach 1 : 0", "reach 1 2 3 : 0", "match 1 2 | 3", "match 1 | 2 3",
                    "match 1 2 | 3 4",
                    "match 1 / 2 3 | 4", "match 1 2 / 3 | 4", "match 1 | 2 / 3 4", "match 1 | 2 3 / 4"):
            self.assert_refused(desk_with(SLEEVE), row, NoNumber)
        for row in ("match 1 2 3 4 5 | 6 7", "match 1 2 3 | 4 5", "match 1 2 3 4 5 6 | 7",
                    "match 1 2 / 3 4 5 | 1 2 3 4",
                    "match 1 2 / 3 | 1 2 3 4", "match 1 2 | 1 2 3 4 / 1 2 3", "match 1 2 | 1 2 3 / 1 2 3 4"):
            self.assert_refused(desk_with(SIX), row, NoNumber)

    def test_out_of_bounds_where_it_must_not(self):
        for row in ("reach 0 : 0", "reach 5 : 0", "reach 4/5 : 1", "reach -1 : 1", "reach 5 : 0 1",
                    "reach " + FORTY + " : 0"):
            self.assert_refused(desk_with(SMALL), row, NoNumber)
        for row in ("reach 11 10 : 0", "reach 10 11 : 0", "reach -1 0 : 0", "reach 0 -1/9 : 0"):
            self.assert_refused(desk_with(SLEEVE), row, NoNumber)

    def test_numbers_beyond_or_twice(self):
        for row in ("reach 4 : 2", "reach 4 : 999999", "reach 4 : 0 2", "reach 4 : 2 0", "reach 4 : 0 0",
                    "reach 4 : 1 0 1",
                    "reach 4 : 0 1 0", "reach 4 : 3 3"):
            self.assert_refused(desk_with(SMALL), row, NoNumber)
        self.assertEqual(told_by(SMALL, "reach 4 : 1 0"), "5 7")
        # Just so many numbers as there are sizes and shims.
        for text, at, count in (("size 0 1", "1", 1), (SLEEVE, "2 3", 3), (show_plan(two_shims()), "2", 3)):
            for number in range(count):
                self.assertNotEqual(told_by(text, "reach %s : %d" % (at, number)), "none")
            for number in range(count, count + 4):
                self.assert_refused(desk_with(text), "reach %s : %d" % (at, number), NoNumber)

    def test_more_than_twelve_parts(self):
        many = " / ".join(["3"] * 13)
        for row in ("match %s | 3" % many, "match 3 | %s" % many, "match %s | %s" % (many, many)):
            self.assert_refused(desk_with(SLEEVE), row, NoNumber)

    def test_what_is_no_order(self):
        for row in ("order s0", "order c0", "order s0 s0", "order c0 c0", "order s0 c0 c0", "order s0 s0 c0",
                    "order s0 c1",
                    "order s1 c0", "order s0 c0 s1", "order s0 c999999", "order s0 c0 c1"):
            self.assert_refused(desk_with(SMALL), row, NoNumber)

    def test_as_the_stages_refuse(self):
        for row, kind in (("number 3", NoNumber), ("number 999999", NoNumber)):
            self.assert_refused(desk_with(SMALL), row, kind)
        for row in ("count", "number 0", "number 999999"):
            self.assert_refused(desk_with("size 1 20001"), row, TooMany)
        self.assert_refused(desk_with("size 1/3 2/3"), "number 0", NoNumber)

    def test_the_first_that_is_due(self):
        # No row ahead of no plan at all, this ahead of what goes not with the plan, this ahead of what a stage refuses.
        self.assert_refused(Desk(), "fit 01", NoRow)
        self.assert_refused(Desk(), "reach 1 1 : 0 00", NoRow)
        self.assert_refused(Desk(), "order s0 s0 x", NoRow)
        self.assert_refused(Desk(), "match " + " / ".join(["1"] * 13) + " | x", NoRow)
        self.assert_refused(desk_with(SMALL), "fit 1 2 x", NoRow)
        self.assert_refused(desk_with(SMALL), "reach 9 9 : 0 0 x", NoRow)
        self.assert_refused(desk_with(SMALL), "order s7 s7 s", NoRow)
        self.assert_refused(desk_with(SMALL), "match 1 2 3 | 4 5 6 | 7", NoRow)
        self.assert_refused(desk_with("size 1 20001"), "number 01", NoRow)
        self.assert_refused(desk_with("size 1 20001"), "count 1", NoRow)
        self.assert_refused(Desk(), "plan", NoRow)
        self.assert_refused(Desk(), "plan ", NoText)
        self.assert_refused(Desk(), "plan always", NoText)
        self.assert_refused(Desk(), "reach 5 : 7 7", NoName)
        self.assert_refused(Desk(), "order s0 s0", NoName)

    def test_what_is_refused_changes_nothing(self):
        desk = desk_with(SLEEVE)
        answers = [desk.say(row) for row in ASKED]
        for row in NO_ROWS + tuple("plan " + text for text in NO_PLANS) + ("fit 1", "reach 11 11 : 0", "order s0",
                                                                           "number 99"):
            with self.assertRaises(ShimError):
                desk.say(row)
        self.assertEqual(desk.plan(), sleeve())
        self.assertEqual([desk.say(row) for row in ASKED], answers)

    def test_numbers_of_six_figures(self):
        self.assertEqual(told_by("size 100000 119999", "number 19999"), "119999")
        for row in ("number 999999", "reach 100000 : 999999", "order s999999"):
            self.assert_refused(desk_with("size 100000 119999"), row, NoNumber)
        for row in ("number 1000000", "reach 100000 : 1000000", "order s1000000"):
            self.assert_refused(desk_with("size 100000 119999"), row, NoRow)


if __name__ == "__main__":
    unittest.main()

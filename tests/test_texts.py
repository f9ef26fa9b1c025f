"""Promises 2 and 25: plans, lists and fractions written, each in one way, and read back."""

import itertools
import random
import unittest
from fractions import Fraction

from shimright.errors import NoText, ShimError
from shimright.texts import read_fraction, read_list, read_plan, show_list, show_plan
from tests.helpers import (
    EIGHTY, bare, check_own, drawing, drawn_counts, drawn_plan, good_plan, no_demands, no_shims, pair, pairs,
    small_plan, two_shims, written,
)

FORTY = 10 ** 40 - 1

PLANS = (
    (small_plan, "size 1 4; shim 0 3; demand 1 : 1 : -5"),
    (good_plan, "size 1 4; size -1/2 5/2; shim 0 6; shim -3 3; demand 2 -1 : 1 0 : -5; demand -1/2 0 : -1 1/3 : 4"),
    (two_shims, "size 0 6; shim 0 3; shim 0 3; demand -1 : 1 1 : 0; demand 1 : -1 -1 : 1; demand 0 : 1 -1 : 0"),
    (no_shims, "size 0 2; demand 1 : : -1"),
    (no_demands, "size 0 2; size 3 3; shim -1 1"),
    (bare, "size 0 0"),
)

NO_TEXTS = (
    None, True, False, 0, 1, -1, 1.5, b"", b"1", b"none", b"size 0 0", [], ["1"], ["none"], (), (1, 2), ("1",), {},
    set(), object(), [(1, 1)], ([((0, 1), (0, 1))], [], []), str, len,
)

# What writes no fraction, by itself or in whatever else.
NO_FRACTIONS = (
    "00", "01", "007", "-01", "-00", "-0", "+1", "+0", "--1", "1-", "-", "+", "- 1", "0x1", "1e3", "1.0", "1.", ".5",
    "1,5", "1_000", "a", "x1", "1x", "1/1", "0/1", "-1/1", "1/0", "0/0", "1/-2", "-1/-2", "1/+2", "+1/2", "2/4",
    "-2/4", "0/2", "-0/2", "0/5", "6/3", "9/6", "1/02", "01/2", "1/2/3", "1//2", "/2", "1/", "/", "1/2/", "/1/2",
    "1 /2", "1/ 2", "1 / 2", "1\n", "\n1", "1\t", "\t1", "1/2\n", "1/\t2", "1\r", "1\x0b", "\"1\"", "'1'", "(1, 2)",
    "(1)", "1;", ";", ":", "none1", "None", "NONE", "nil", "inf", "nan", "one",
)


def spoilt_texts(text):
    """Texts that differ from this one by a sign left out, put on or put in the place of another."""
    signs = " ;:/-0123456789+.\tsdn\n"
    for k in range(len(text) + 1):
        yield text[:k] + text[k + 1:]
        for sign in signs:
            yield text[:k] + sign + text[k:]
            yield text[:k] + sign + text[k + 1:]


class TextTest(unittest.TestCase):
    def assert_refused(self, read, text):
        with self.assertRaises(NoText, msg=repr(text)) as caught:
            read(text)
        self.assertIsInstance(caught.exception, ShimError)
        self.assertIsInstance(caught.exception, ValueError)

    def assert_one_writing(self, show, read, text):
        """Whatever is read is written by just the text that it is read from; whether something is."""
        try:
            told = read(text)
        except NoText:
            return False
        self.assertEqual(show(told), text)
        return True


class ReadFractionTest(TextTest):
    def test_written_out(self):
        for text, wanted in (("0", 0), ("1", 1), ("-1", -1), ("10", 10), ("-10", -10), ("1/2", Fraction(1, 2)),
                             ("-1/2", Fraction(-1, 2)), ("7/3", Fraction(7, 3)), ("-7/10", Fraction(-7, 10)),
                             ("10/21", Fraction(10, 21)), ("100", 100)):
            self.assertEqual(read_fraction(text), pair(wanted))

    def test_forty_figures_and_forty_one(self):
        for text in ("9" * 40, "-" + "9" * 40, "1/" + "9" * 40, "1" + "0" * 38 + "1/" + "1" + "0" * 39,
                     "-2/" + "9" * 40):
            self.assertEqual(read_fraction(text), pair(Fraction(text)))
        for text in ("9" * 41, "-" + "9" * 41, "1" + "0" * 40, "1/" + "9" * 41, "1/1" + "0" * 40, "9" * 41 + "/2",
                     "-" + "9" * 41 + "/2", "0" * 41, "9" * 5000, "1/" + "9" * 5000):
            self.assert_refused(read_fraction, text)

    def test_what_writes_none(self):
        for text in NO_FRACTIONS + ("", " ", " 1", "1 ", "1 2", "none", "size", "1/2 ", " 1/2"):
            self.assert_refused(read_fraction, text)

    def test_figures_of_other_scripts(self):
        for text in ("\u0661", "\u00b2", "1\u0662", "1/\u0663", "\uff11", "\u2212" + "1"):
            self.assert_refused(read_fraction, text)

    def test_what_is_no_text(self):
        for thing in NO_TEXTS:
            self.assert_refused(read_fraction, thing)

    def test_one_writing(self):
        read = sum(self.assert_one_writing(lambda q: show_list([q]), read_fraction, "".join(signs))
                   for count in range(1, 6) for signs in itertools.product("012-/", repeat=count))
        self.assertGreater(read, 300)


class ListTest(TextTest):
    def test_written_out(self):
        for told, text in (([], "none"), ([0], "0"), ([1, -2, Fraction(-1, 2)], "1 -2 -1/2"), ([3, 3, 3], "3 3 3")):
            self.assertEqual(show_list(pairs(*told)), text)
            self.assertEqual(read_list(text), pairs(*told))

    def test_many(self):
        told = pairs(*[Fraction(k, 7) for k in range(-1000, 1000)])
        self.assertEqual(read_list(show_list(told)), told)

    def test_read_back(self):
        source = random.Random(25)
        for again in range(100):
            draw = drawing(source, (1, 2, 39)[again % 3])
            told = pairs(*[draw() for k in range(source.randrange(6))])
            self.assertEqual(read_list(show_list(told)), told)

    def test_more_than_forty_figures_are_written_but_not_read(self):
        for q in (FORTY + 1, -FORTY - 1, Fraction(1, FORTY + 1), Fraction(EIGHTY, EIGHTY - 1)):
            text = "1 " + str(q) + " 2"
            self.assertEqual(show_list(pairs(1, q, 2)), text)
            self.assert_refused(read_list, text)
        for q in (FORTY, -FORTY, Fraction(1, FORTY), Fraction(FORTY, FORTY - 1)):
            text = "1 " + str(q) + " 2"
            self.assertEqual(show_list(pairs(1, q, 2)), text)
            self.assertEqual(read_list(text), pairs(1, q, 2))

    def test_very_many_figures_are_written(self):
        # More than Python's str writes by itself.
        self.assertEqual(show_list([(10 ** 5000, 1), (-1, 10 ** 4999)]), "1" + "0" * 5000 + " -1/1" + "0" * 4999)

    def test_what_writes_none(self):
        for text in ("", " ", "  ", "1  2", " 1", "1 ", " 1 2", "1 2 ", "1\t2", "1\n2", "1 2\n", "1, 2", "1; 2",
                     "none ", " none",
                     "none none", "none 1", "1 none", "None", "[]", "1 : 2", "\n", "none\n"):
            self.assert_refused(read_list, text)
        for text in NO_FRACTIONS:
            for whole in (text, text + " 1", "1 " + text, "1 " + text + " 2"):
                self.assert_refused(read_list, whole)

    def test_what_is_no_text(self):
        for thing in NO_TEXTS:
            self.assert_refused(read_list, thing)

    def test_one_writing(self):
        read = sum(self.assert_one_writing(show_list, read_list, text)
                   for start in ("none", "0", "1 -2 3/4", "10 -1/20 7") for text in spoilt_texts(start))
        self.assertGreater(read, 80)

    def test_what_is_told_is_the_askers_own(self):
        for text in ("none", "1 2 3"):
            check_own(self, read_list, text)
        check_own(self, show_list, pairs(1, 2))
        check_own(self, show_list, [])


class PlanTest(TextTest):
    def assert_no_plan(self, *texts):
        for text in texts:
            self.assert_refused(read_plan, text)

    def test_written_out(self):
        for make, text in PLANS:
            self.assertEqual(show_plan(make()), text)
            self.assertEqual(read_plan(text), make())

    def test_read_back(self):
        source = random.Random(26)
        for again in range(150):
            plan = drawn_plan(source, (1, 2, 9)[again % 3], drawn_counts(source), lambda: 0)[0]
            self.assertEqual(read_plan(show_plan(plan)), plan)

    def test_any_lengths(self):
        plan = written(([(0, 1)] * 40, [(0, 1)] * 30, [([1] * 40, [1] * 30, 0)] * 20))
        self.assertEqual(read_plan(show_plan(plan)), plan)

    def test_no_b_where_there_is_no_shim(self):
        self.assertEqual(show_plan(written(([(0, 1)] * 2, [], [([1, 2], [], 3)]))),
                         "size 0 1; size 0 1; demand 1 2 : : 3")
        self.assert_no_plan("size 0 2; demand 1 : -1", "size 0 2; demand 1 :  : -1", "size 0 2; demand 1 :: -1",
                            "size 0 2; demand 1 : 1 : -1", "size 0 2; demand 1 : : : -1", "size 0 2; demand 1 : :",
                            "size 0 2; demand 1 : : 1 2", "size 0 2; demand 1 : none : 1")

    def test_forty_figures_and_forty_one(self):
        for number, is_read in ((FORTY, True), (FORTY + 1, False)):
            for q in (number, -number, Fraction(1, number), Fraction(-1, number)):
                for plan in (([(q, q)], [], []), ([(0, 0)], [(q, q)], []), ([(0, 0)], [], [([q], [], 0)]),
                             ([(0, 0)], [(0, 0)], [([0], [q], 0)]), ([(0, 0)], [], [([0], [], q)])):
                    text = show_plan(written(plan))
                    self.assertIn(str(q), text)
                    if is_read:
                        self.assertEqual(read_plan(text), written(plan))
                    else:
                        self.assert_no_plan(text)

    def test_low_above_high(self):
        self.assertEqual(read_plan("size 1 1; shim -1 -1"), written(([(1, 1)], [(-1, -1)], [])))
        self.assert_no_plan("size 1 0", "size 1/2 1/3", "size 0 1; shim 1 0", "size 0 1; size 2 1", "size 0 -1",
                            "size 0 1; shim 0 1; shim -1/3 -1/2")

    def test_no_size(self):
        self.assert_no_plan("", "shim 0 1", "shim 0 1; demand : 1 : 0", "demand : : 0", "demand 1 : : 0", "none", " ")

    def test_rows_in_another_order(self):
        rows = ["size 0 1", "shim 0 1", "demand 1 : 1 : 0"]
        for some in itertools.permutations(rows):
            if list(some) != rows:
                self.assert_no_plan("; ".join(some))
        self.assert_no_plan("size 0 1; shim 0 1; size 0 1", "size 0 1; demand 1 : : 0; size 0 1",
                            "size 0 1; demand 1 : 1 : 0; shim 0 1", "size 0 1; shim 0 1; demand 1 : 1 : 0; shim 0 1")

    def test_rows_of_other_lengths(self):
        self.assert_no_plan("size 0", "size", "size ", "size 0 1 2", "size 0 1; shim", "size 0 1; shim 0",
                            "size 0 1; shim 0 1 2")
        head = "size 0 1; size 0 1; shim 0 1; "
        self.assertEqual(read_plan(head + "demand 1 2 : 3 : 4")[2], written([([1, 2], [3], 4)]))
        for row in ("demand 1 : 2 : 3", "demand 1 2 3 : 4 : 5", "demand 1 2 : : 3", "demand 1 2 : 3 4 : 5",
                    "demand 1 2 : 3 :",
                    "demand 1 2 : 3", "demand 1 2 3 4", "demand 1 2 3 : 4", "demand 1 2 : 3 4", "demand : :", "demand",
                    "demand 1 2 : 3 : 4 5", "demand 1 2 : 3 : ", "demand : 1 2 : 3 : 4", "demand 1 2 : 3 : 4 :",
                    "demand 1 : 2 3 : 4", "demand 1 2 / 3 : 4", "demand 1 2 : 3 ; 4", "demand 1 2 3 : : 4"):
            self.assert_no_plan(head + row)

    def test_other_words(self):
        self.assert_no_plan("Size 0 1", "sizes 0 1", "0 1", "plan 0 1", "plan size 0 1", "SIZE 0 1",
                            "size 0 1; Shim 0 1",
                            "size 0 1; other 0 1", "size 0 1; 0 1", "size 0 1; demands 1 : : 0", "size: 0 1",
                            "size 0 1; none")

    def test_blanks_and_line_ends(self):
        self.assert_no_plan(" size 0 1", "size 0 1 ", "size  0 1", "size 0  1", "size\t0 1", "size 0\t1", "size 0 1\n",
                            "\nsize 0 1",
                            "size 0 1;", "size 0 1; ", "; size 0 1", "size 0 1;size 0 1", "size 0 1;  size 0 1",
                            "size 0 1 ; size 0 1", "size 0 1; ; size 0 1", "size 0 1;\nsize 0 1", "size 0 1\nsize 0 1",
                            "size 0 1;; size 0 1", "size 0 1, size 0 1", "size 0 1;\tsize 0 1",
                            "size 0 1; demand 1 : : 0 ")

    def test_wrong_fractions_at_each_place(self):
        for text in NO_FRACTIONS:
            self.assert_no_plan(*["size %s 9" % text, "size -9 %s" % text, "size 0 1; shim %s 9" % text,
                                  "size 0 1; shim -9 %s" % text, "size 0 1; demand %s : : 0" % text,
                                  "size 0 1; shim 0 1; demand 0 : %s : 0" % text, "size 0 1; demand 0 : : %s" % text])

    def test_what_is_no_text(self):
        for thing in NO_TEXTS:
            self.assert_refused(read_plan, thing)

    def test_one_writing(self):
        read = sum(self.assert_one_writing(show_plan, read_plan, text) for make, start in PLANS
                   for text in spoilt_texts(start))
        self.assertGreater(read, 300)

    def test_what_is_told_is_the_askers_own(self):
        for make, text in PLANS:
            check_own(self, read_plan, text)
            check_own(self, show_plan, make())


if __name__ == "__main__":
    unittest.main()

"""Promises 1, 2 and 3 over the whole program, and the interface: what is told at one place holds at all others."""

import importlib
import inspect
import itertools
import math
import os
import pathlib
import random
import subprocess
import sys
import unittest

from shimright.choices import choice_for
from shimright.desk import Desk
from shimright.texts import show_list, show_plan
from tests.helpers import drawn_plan, good_plan, no_shims, pairs, read, sleeve, small_plan, two_shims

INTERFACE = {
    "fractions": {
        "fraction": "top bottom", "plus": "q r", "minus": "q r", "times": "q r", "over": "q r", "below": "q r",
        "show": "q",
    },
    "plans": {"is_plan": "thing", "fits": "plan made choice", "worths": "plan made choice"},
    "choices": {"rows_of": "plan made", "choice_for": "plan made", "weights_bar": "plan made weights"},
    "rules": {"rule_of": "plan", "chosen_by": "rule made"},
    "always": {"worst": "plan row", "always": "plan", "shows": "plan answer"},
    "gaps": {
        "gap_demands": "plan chain least greatest", "with_demands": "plan demands", "reach": "plan made chain",
    },
    "whole": {
        "how_many": "plan", "good_set": "plan number", "number_of": "plan made", "beginning_with": "plan tops",
    },
    "matched": {"go_together": "plan one other", "matched": "plan ones others"},
    "covers": {"matching_shows": "plan ones others answer"},
    "pins": {"pin_plan": "pairs least greatest", "first_apart": "pairs least greatest offs"},
    "orders": {
        "is_order": "plan order", "rows_at": "plan order place", "who_wins": "plan order",
        "next_worth": "plan order so_far",
    },
    "texts": {
        "show_plan": "plan", "show_list": "fractions", "read_plan": "text", "read_list": "text",
        "read_fraction": "text",
    },
}

ASKS = """
from shimright.desk import Desk
from shimright.matched import matched
from shimright.orders import next_worth
from shimright.always import always
from tests.helpers import good_plan, pairs, sleeve, two_shims
from shimright.texts import show_plan
for plan in (good_plan(), two_shims(), sleeve()):
    desk = Desk()
    desk.say("plan " + show_plan(plan))
    sizes = " ".join(["2"] * len(plan[0]))
    for row in ("fit " + sizes, "always", "rows", "count", "number 3", "reach " + sizes + " : 0 1"):
        print(row, desk.say(row))
    print(always(plan))
print(matched(sleeve(), [pairs(k) for k in (1, 2, 2, 3, 4, 4, 11)], [pairs(k) for k in (4, 4, 3, 2, 1, 0)]))
print(next_worth(two_shims(), [("size", 0), ("shim", 1), ("shim", 0)], pairs(3)))
"""


def whole_sets(plan):
    ranges = [range(math.ceil(low), math.floor(high) + 1) for low, high in read(plan[0])]
    return [pairs(*tops) for tops in itertools.product(*ranges)]


def drawn_plans(often):
    source = random.Random(3)
    told = []
    while len(told) < often:
        counts = (source.randrange(1, 4), source.randrange(4), source.randrange(5))
        highest = source.choice((2, 8, 30))
        plan = drawn_plan(source, 1, counts, lambda: source.randrange(highest))[0]
        if len(whole_sets(plan)) <= 60:
            told.append(plan)
    return told


class InterfaceTest(unittest.TestCase):
    def test_names_and_arguments(self):
        for module, names in INTERFACE.items():
            held = importlib.import_module("shimright." + module)
            for name, arguments in names.items():
                told = list(inspect.signature(getattr(held, name)).parameters)
                self.assertEqual(told, arguments.split(), (module, name))

    def test_the_desk(self):
        self.assertEqual(list(inspect.signature(Desk).parameters), [])
        self.assertEqual(list(inspect.signature(Desk().say).parameters), ["row"])
        self.assertEqual(list(inspect.signature(Desk().plan).parameters), [])


class ProgramTest(unittest.TestCase):
    def test_one_plan_asked_in_every_way(self):
        plans = drawn_plans(40) + [small_plan(), good_plan(), two_shims(), no_shims(), sleeve()]
        seen = {"yes": 0, "no": 0}
        for plan in plans:
            desk = Desk()
            desk.say("plan " + show_plan(plan))
            self.check_count(desk, plan)
            seen[self.check_always(desk, plan)] += 1
        self.assertGreater(min(seen.values()), 8)

    def check_count(self, desk, plan):
        sets = whole_sets(plan)
        good = [made for made in sets if desk.say("fit " + show_list(made)) != "none"]
        self.assertEqual(good, [made for made in sets if choice_for(plan, made)[0] == "choice"])
        self.assertEqual(desk.say("count"), "%d of %d" % (len(good), len(sets)))
        self.assertEqual([desk.say("number %d" % k) for k in range(len(good))], [show_list(made) for made in good])
        for made in sets:
            reached = desk.say("reach " + show_list(made) + " : 0")
            told = show_list(made[:1])
            self.assertEqual(reached, told + " " + told if made in good else "none")
            if len(made) > 1:
                row = "match %s | %s" % (show_list(made[:1]), show_list(made[1:]))
                self.assertEqual(desk.say(row), "1" if made in good else "0")

    def check_always(self, desk, plan):
        told = desk.say("always")
        words = ["s%d" % k for k in range(len(plan[0]))] + ["c%d" % k for k in range(len(plan[1]))]
        self.assertEqual(desk.say("order " + " ".join(words)), "chooser" if told == "yes" else "maker")
        if told == "yes":
            good, of, every = desk.say("count").split()
            self.assertEqual(good, every)
            return "yes"
        self.assertEqual(desk.say("fit " + told[len("no "):]), "none")
        return "no"

    def test_the_same_in_another_run(self):
        # Nothing hangs on how a run orders what is in a set.
        top = pathlib.Path(__file__).resolve().parent.parent
        told = []
        for seed in ("0", "1", "2"):
            run = subprocess.run([sys.executable, "-c", ASKS], cwd=top, env=dict(os.environ, PYTHONHASHSEED=seed),
                                 capture_output=True, text=True, check=True)
            told.append(run.stdout)
        self.assertGreater(len(told[0].splitlines()), 20)
        self.assertEqual(told, [told[0]] * 3)


if __name__ == "__main__":
    unittest.main()

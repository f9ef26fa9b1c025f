"""Pins and holes: one shift chosen for all of them, and which are too far apart for it."""

from shimright.choices import all_but_one_0, choice_for
from shimright.fractions import ONE, opposite


def pin_plan(pairs, least, greatest):
    sizes = [(low, high) for low, high, slack in pairs]
    minus_one = opposite(ONE)
    demands = []
    for k, pair in enumerate(pairs):
        demands.append((all_but_one_0(len(pairs), k, ONE), [minus_one], pair[2]))
        demands.append((all_but_one_0(len(pairs), k, minus_one), [ONE], pair[2]))
    return (sizes, [(least, greatest)], demands)


def are_apart(pairs, least, greatest, offs, numbers):
    plan = pin_plan([pairs[k] for k in numbers], least, greatest)
    return choice_for(plan, [offs[k] for k in numbers])[0] == "bars"


def first_apart(pairs, least, greatest, offs):
    for i in range(len(pairs)):
        if are_apart(pairs, least, greatest, offs, [i]):
            return (i, i)
        for j in range(i + 1, len(pairs)):
            if are_apart(pairs, least, greatest, offs, [i, j]):
                return (i, j)
    return None

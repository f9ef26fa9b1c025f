"""Every made set: a rule by which each has a choice, or one that has none."""

from shimright.choices import choice_for, weights_bar
from shimright.fractions import ZERO, below
from shimright.plans import demand_worth, within_bounds
from shimright.rules import rule_of


def worst_end(q, pair):
    return pair[1] if below(q, ZERO) else pair[0]


def worst(plan, row):
    made = [worst_end(q, pair) for q, pair in zip(row[0], plan[0])]
    return (demand_worth(row, made, []), made)


def always(plan):
    rule = rule_of(plan)
    for row in rule[1]:
        found = worst(plan, row)
        if below(found[0], ZERO):
            return ("never", found[1], choice_for(plan, found[1])[1])
    return ("always", rule)


def shows_always(plan, rule):
    if rule != rule_of(plan):
        return False
    return not any([below(worst(plan, row)[0], ZERO) for row in rule[1]])


def shows_never(plan, made, weights):
    return within_bounds(plan[0], made) and weights_bar(plan, made, weights)


def shows(plan, answer):
    if answer[0] == "always" and len(answer) == 2:
        return shows_always(plan, answer[1])
    if answer[0] == "never" and len(answer) == 3:
        return shows_never(plan, answer[1], answer[2])
    return False

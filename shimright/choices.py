"""Choices: what a made set asks of the shims, and a choice for it, or weights that show that it has none."""

from shimright.fractions import ONE, ZERO, below, opposite, plus
from shimright.plans import weighed_sum
from shimright.tables import barring_weights, choice_at, settled, table_at_lows


def all_but_one_0(length, place, q):
    told = [ZERO for k in range(length)]
    told[place] = q
    return told


def bound_rows(shims):
    told = []
    for k, pair in enumerate(shims):
        told.append((all_but_one_0(len(shims), k, ONE), opposite(pair[0])))
        told.append((all_but_one_0(len(shims), k, opposite(ONE)), pair[1]))
    return told


def rows_of(plan, made):
    told = [(list(b), plus(weighed_sum(a, made), c)) for a, b, c in plan[2]]
    return told + bound_rows(plan[1])


def choice_for(plan, made):
    end = settled(table_at_lows(len(plan[1]), rows_of(plan, made)))
    if end[1] is None:
        return ("choice", choice_at(end[0]))
    return ("bars", barring_weights(end[0], end[1]))


def weights_bar(plan, made, weights):
    rows = rows_of(plan, made)
    # The lengths come first: sums would pass over what one list has more than the other.
    if len(made) != len(plan[0]) or len(weights) != len(rows):
        return False
    if any([below(weight, ZERO) for weight in weights]):
        return False
    for k in range(len(plan[1])):
        if weighed_sum(weights, [b[k] for b, d in rows]) != ZERO:
            return False
    return below(weighed_sum(weights, [d for b, d in rows]), ZERO)

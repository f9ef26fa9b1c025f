"""Rules: the shims told one by one, from sums of the made ones and the shims ahead."""

from shimright.choices import bound_rows
from shimright.errors import NoChoice
from shimright.fractions import ZERO, below, opposite, over, plus, times
from shimright.plans import copied_rows, demand_worth


def says_nothing(row):
    return all([q == ZERO for q in row[0] + row[1]]) and not below(row[2], ZERO)


def put_on(rows):
    # A dict, as rows come in thousands; it keeps the order in which they came.
    told = {}
    for row in rows:
        if not says_nothing(row):
            told.setdefault((tuple(row[0]), tuple(row[1]), row[2]), row)
    return list(told.values())


def shim_rows(plan):
    return [([ZERO for pair in plan[0]], b, d) for b, d in bound_rows(plan[1])]


def first_rows(plan):
    return put_on(copied_rows(plan[2]) + shim_rows(plan))


def mixed(q, one, r, other):
    return [plus(times(q, x), times(r, y)) for x, y in zip(one, other)]


def put_together(low, high, k):
    q = opposite(high[1][k])
    r = low[1][k]
    return (mixed(q, low[0], r, high[0]), mixed(q, low[1], r, high[1]), plus(times(q, low[2]), times(r, high[2])))


def taken_out(rows, k):
    lows = [row for row in rows if below(ZERO, row[1][k])]
    highs = [row for row in rows if below(row[1][k], ZERO)]
    told_on = [row for row in rows if row[1][k] == ZERO]
    for low in lows:
        told_on.extend([put_together(low, high, k) for high in highs])
    return (lows, highs, put_on(told_on))


def rule_of(plan):
    rows = first_rows(plan)
    steps = []
    for k in range(len(plan[1]) - 1, -1, -1):
        parts = taken_out(rows, k)
        steps.append((parts[0], parts[1]))
        rows = parts[2]
    return (list(reversed(steps)), rows)


def least_let(low, k, made, others):
    # Others tells the shims beside k: it ends ahead of k, or is 0 there, so that b of k has no part in the sum.
    return over(opposite(demand_worth(low, made, others)), low[1][k])


def greatest_of(fractions):
    greatest = fractions[0]
    for q in fractions:
        if below(greatest, q):
            greatest = q
    return greatest


def chosen_by(rule, made):
    if any([below(demand_worth(row, made, []), ZERO) for row in rule[1]]):
        raise NoChoice("the made set has no choice")
    choice = []
    for lows, highs in rule[0]:
        choice.append(greatest_of([least_let(low, len(choice), made, choice) for low in lows]))
    return choice

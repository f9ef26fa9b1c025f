"""Gaps: sums of sizes and shims, demands that bound them, and how far the shims let them reach."""

from shimright.choices import rows_of
from shimright.fractions import ZERO, opposite
from shimright.plans import copied, demand_worth, within_bounds
from shimright.tables import choice_at, settled, sunk, table_at_lows


def chain_tops(plan, chain):
    size_count = len(plan[0])
    tops = [0 for k in range(size_count + len(plan[1]))]
    for k, often in chain:
        tops[k] = tops[k] + often
    return (tops[:size_count], tops[size_count:])


def all_whole(tops):
    return [(top, 1) for top in tops]


def all_opposite(tops):
    return [-top for top in tops]


def gap_demands(plan, chain, least, greatest):
    tops = chain_tops(plan, chain)
    not_below = (all_whole(tops[0]), all_whole(tops[1]), opposite(least))
    not_above = (all_whole(all_opposite(tops[0])), all_whole(all_opposite(tops[1])), greatest)
    return [not_below, not_above]


def with_demands(plan, demands):
    return copied((plan[0], plan[1], plan[2] + demands))


def worth_and_choice(tops, made, table):
    choice = choice_at(table)
    row = (all_whole(tops[0]), all_whole(tops[1]), ZERO)
    return (demand_worth(row, made, choice), choice)


def reach(plan, made, chain):
    # A made set out of bounds fits with no choice, whatever its rows say.
    if not within_bounds(plan[0], made):
        return None
    end = settled(table_at_lows(len(plan[1]), rows_of(plan, made)))
    if end[1] is not None:
        return None
    tops = chain_tops(plan, chain)
    least = sunk(end[0], tops[1])
    greatest = sunk(end[0], all_opposite(tops[1]))
    return (worth_and_choice(tops, made, least), worth_and_choice(tops, made, greatest))

"""Orders: sizes made and shims chosen one behind the other, who wins, and by which worths."""

from shimright.always import worst_end
from shimright.errors import NoChoice
from shimright.fractions import ZERO, below, is_tuple_of, is_whole, plus, times
from shimright.plans import copied_rows, demand_worth
from shimright.rules import greatest_of, least_let, put_on, shim_rows, taken_out


def turns_of(plan):
    sizes = [("size", k) for k in range(len(plan[0]))]
    return sizes + [("shim", k) for k in range(len(plan[1]))]


def is_order(plan, order):
    turns = turns_of(plan)
    if len(order) != len(turns):
        return False
    # True and False stand for 1 and 0 where Python asks whether two tuples are the same.
    if not all([is_tuple_of(thing, 2) and is_whole(thing[1]) for thing in order]):
        return False
    return all([turn in order for turn in turns])


def own_rows(plan, k):
    return shim_rows(plan)[2 * k:2 * k + 2]


def size_put(row, k, q):
    a = list(row[0])
    a[k] = ZERO
    return (a, row[1], plus(row[2], times(row[0][k], q)))


def turn_taken_out(plan, rows, turn):
    k = turn[1]
    if turn[0] == "shim":
        return taken_out(rows + own_rows(plan, k), k)[2]
    return put_on([size_put(row, k, worst_end(row[0][k], plan[0][k])) for row in rows])


def rows_at(plan, order, place):
    rows = copied_rows(plan[2])
    for turn in reversed(order[place:]):
        rows = turn_taken_out(plan, rows, turn)
    return rows


def who_wins(plan, order):
    if any([below(row[2], ZERO) for row in rows_at(plan, order, 0)]):
        return "maker"
    return "chooser"


def made_and_chosen(plan, order, so_far):
    # What is still to come is 0, so that it has no part in sums.
    made = [ZERO for pair in plan[0]]
    choice = [ZERO for pair in plan[1]]
    for turn, q in zip(order, so_far):
        if turn[0] == "size":
            made[turn[1]] = q
        else:
            choice[turn[1]] = q
    return (made, choice)


def makers_worth(plan, rows, k, told):
    for row in rows:
        end = worst_end(row[0][k], plan[0][k])
        if below(demand_worth(size_put(row, k, end), told[0], told[1]), ZERO):
            return end
    raise NoChoice("the maker does not win from here")


def choosers_worth(plan, rows, k, told):
    asked = rows + own_rows(plan, k)
    lows = [row for row in asked if below(ZERO, row[1][k])]
    # Where the least that all lows let is too much for some other row, so is all above it.
    least = greatest_of([least_let(row, k, told[0], told[1]) for row in lows])
    choice = list(told[1])
    choice[k] = least
    if any([below(demand_worth(row, told[0], choice), ZERO) for row in asked]):
        raise NoChoice("the chooser does not win from here")
    return least


def next_worth(plan, order, so_far):
    place = len(so_far)
    if place >= len(order):
        raise NoChoice("nobody's turn is left")
    rows = rows_at(plan, order, place + 1)
    told = made_and_chosen(plan, order, so_far)
    if order[place][0] == "size":
        return makers_worth(plan, rows, order[place][1], told)
    return choosers_worth(plan, rows, order[place][1], told)

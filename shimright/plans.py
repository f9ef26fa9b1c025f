"""Plans: what is one, which made sets and choices fit it, and what its demands are worth."""

from shimright.fractions import ZERO, below, is_fraction, is_tuple_of, plus, times


def is_bounds(thing):
    if not is_tuple_of(thing, 2):
        return False
    if not is_fraction(thing[0]) or not is_fraction(thing[1]):
        return False
    return not below(thing[1], thing[0])


def is_bounds_list(thing):
    return isinstance(thing, list) and all([is_bounds(pair) for pair in thing])


def is_fraction_list(thing, length):
    if not isinstance(thing, list) or len(thing) != length:
        return False
    return all([is_fraction(q) for q in thing])


def is_demand(thing, size_count, shim_count):
    if not is_tuple_of(thing, 3):
        return False
    if not is_fraction_list(thing[0], size_count) or not is_fraction_list(thing[1], shim_count):
        return False
    return is_fraction(thing[2])


def is_plan(thing):
    if not is_tuple_of(thing, 3):
        return False
    if not is_bounds_list(thing[0]) or not is_bounds_list(thing[1]):
        return False
    if len(thing[0]) == 0 or not isinstance(thing[2], list):
        return False
    size_count = len(thing[0])
    shim_count = len(thing[1])
    return all([is_demand(demand, size_count, shim_count) for demand in thing[2]])


def copied_rows(rows):
    return [(list(a), list(b), c) for a, b, c in rows]


def copied(plan):
    return (list(plan[0]), list(plan[1]), copied_rows(plan[2]))


def is_between(q, low, high):
    return not below(q, low) and not below(high, q)


def within_bounds(bounds, told):
    # The lengths come first: zip would pass over what one has more than the other.
    if len(bounds) != len(told):
        return False
    return all([is_between(q, pair[0], pair[1]) for pair, q in zip(bounds, told)])


def weighed_sum(factors, told):
    total = ZERO
    for factor, q in zip(factors, told):
        total = plus(total, times(factor, q))
    return total


def demand_worth(demand, made, choice):
    both = plus(weighed_sum(demand[0], made), weighed_sum(demand[1], choice))
    return plus(both, demand[2])


def worths(plan, made, choice):
    return [demand_worth(demand, made, choice) for demand in plan[2]]


def fits(plan, made, choice):
    if not within_bounds(plan[0], made) or not within_bounds(plan[1], choice):
        return False
    return not any([below(worth, ZERO) for worth in worths(plan, made, choice)])

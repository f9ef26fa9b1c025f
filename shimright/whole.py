"""Whole sizes: how many whole made sets have a choice, and by which numbers they are told.

A span is a tuple (first, last) of whole numbers: those from first to last, none where last is below first.
Spans, one for each size, stand for all whole made sets whose tops are within them.
"""

from shimright.errors import NoChoice, NoNumber, TooMany
from shimright.gaps import all_whole, reach
from shimright.tables import scale_of, whole_line

MOST_SETS = 20000


def span_between(low, high):
    return (-(-low[0] // low[1]), high[0] // high[1])


def span_length(span):
    return max(0, span[1] - span[0] + 1)


def sets_within(spans):
    total = 1
    for span in spans:
        total = total * span_length(span)
    return total


def whole_spans(plan):
    spans = [span_between(low, high) for low, high in plan[0]]
    if sets_within(spans) > MOST_SETS:
        raise TooMany("the plan has more than twenty thousand whole made sets")
    return spans


def left_out(things, k):
    return things[:k] + things[k + 1:]


def put_at(things, k, thing):
    return things[:k] + [thing] + things[k + 1:]


def tops_within(spans):
    told = [[]]
    for first, last in spans:
        longer = []
        for tops in told:
            longer.extend([tops + [top] for top in range(first, last + 1)])
        told = longer
    return told


def whole_demand(a, b, c):
    # Taken so often that all of it is whole it asks for the same, and sums of whole numbers are soon told.
    scale = scale_of(a + b + [c])
    return (all_whole(whole_line(a, scale)), all_whole(whole_line(b, scale)), (whole_line([c], scale)[0], 1))


def with_size_chosen(plan, k, span):
    shims = [((span[0], 1), (span[1], 1))] + plan[1]
    demands = [whole_demand(left_out(a, k), [a[k]] + b, c) for a, b, c in plan[2]]
    return (left_out(plan[0], k), shims, demands)


def good_in_line(line, tops):
    found = reach(line, all_whole(tops), [(len(tops), 1)])
    if found is None:
        return 0
    return span_length(span_between(found[0][0], found[1][0]))


def good_within(plan, spans):
    if sets_within(spans) == 0:
        return 0
    # Made sets that differ at one size alone are counted at once: the good ones of them lie side by side,
    # as choices for two of them, mixed, are one for what lies between. So this size is taken for a shim,
    # and what it reaches is where they lie. The longest span leaves the fewest lines.
    k = max(list(range(len(spans))), key=lambda place: span_length(spans[place]))
    line = with_size_chosen(plan, k, spans[k])
    return sum([good_in_line(line, tops) for tops in tops_within(left_out(spans, k))])


def beginning(spans, tops):
    # A top out of its span leaves one that holds none.
    told = [(max(top, span[0]), min(top, span[1])) for top, span in zip(tops, spans)]
    return told + spans[len(tops):]


def how_many(plan):
    spans = whole_spans(plan)
    return (good_within(plan, spans), sets_within(spans))


def good_set(plan, number):
    spans = whole_spans(plan)
    if number < 0 or number >= good_within(plan, spans):
        raise NoNumber("no good made set has this number")
    ahead = number
    for k in range(len(spans)):
        while spans[k][0] < spans[k][1]:
            middle = (spans[k][0] + spans[k][1]) // 2
            lower = put_at(spans, k, (spans[k][0], middle))
            passed = good_within(plan, lower)
            if ahead < passed:
                spans = lower
            else:
                ahead = ahead - passed
                spans = put_at(spans, k, (middle + 1, spans[k][1]))
    return all_whole([first for first, last in spans])


def is_good(plan, spans, made):
    if len(made) != len(spans) or any([q[1] != 1 for q in made]):
        return False
    return good_within(plan, beginning(spans, [q[0] for q in made])) == 1


def number_of(plan, made):
    spans = whole_spans(plan)
    if not is_good(plan, spans, made):
        raise NoChoice("this is none of the good made sets")
    tops = [q[0] for q in made]
    number = 0
    for k, top in enumerate(tops):
        # Those ahead by their top at k: up to there they begin alike.
        number = number + good_within(plan, put_at(beginning(spans, tops[:k]), k, (spans[k][0], top - 1)))
    return number


def beginning_with(plan, tops):
    spans = whole_spans(plan)
    if len(tops) > len(spans):
        return 0
    return good_within(plan, beginning(spans, tops))

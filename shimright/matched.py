"""Measured parts: which go together, and as many pairs of them as can be."""

from shimright.choices import choice_for
from shimright.covers import uncovered
from shimright.plans import within_bounds


def told_for(plan, one, other):
    made = one + other
    if not within_bounds(plan[0], made):
        return ("out", None)
    return choice_for(plan, made)


def go_together(plan, one, other):
    told = told_for(plan, one, other)
    return told[1] if told[0] == "choice" else None


def told_for_all(plan, one, others):
    return [told_for(plan, one, other) for other in others]


def mates_of(row):
    return [j for j, told in enumerate(row) if told[0] == "choice"]


def finds_one(mates, partners, i, tried):
    # Partners tells of each other in a pair its one. A one that gives way must find another other in turn.
    for j in mates[i]:
        if j not in tried:
            tried[j] = True
            if j not in partners or finds_one(mates, partners, partners[j], tried):
                partners[j] = i
                return True
    return False


def partners_of(mates):
    partners = {}
    for i in range(len(mates)):
        finds_one(mates, partners, i, {})
    return partners


def cover_of(mates, partners):
    # Ones in no pair find none, as no more pairs can be; but on the way they try all others that they, and
    # whoever would give way, go with. These others are covered, and the ones of all other pairs.
    in_pairs = list(partners.values())
    tried = {}
    for i in range(len(mates)):
        if i not in in_pairs:
            finds_one(mates, partners, i, tried)
    return (sorted([i for j, i in partners.items() if j not in tried]), sorted(tried))


def matched(plan, ones, others):
    grid = [told_for_all(plan, one, others) for one in ones]
    mates = [mates_of(row) for row in grid]
    partners = partners_of(mates)
    cover = cover_of(mates, partners)
    couples = sorted([(i, j) for j, i in partners.items()])
    pairs = [(i, j, grid[i][j][1]) for i, j in couples]
    bars = [(i, j, grid[i][j][1]) for i, j in uncovered(cover, len(ones), len(others))]
    return ("pairs", pairs, cover, bars)
